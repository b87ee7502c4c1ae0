import PyProof.Rows.All
import Wide.All
import OpenK.AllK
import Wide.FinOn
import PySem.Challenge.RW_rimtrails_k00_words_and_fractions
import HandS.Base
import HandS.Call
import HandS.List
import HandS.Ends
import HandS.Words
import HandS.WordsList
import HandS.Wide
import PyProof.ReprRoads
import HandS.Dict
import HandS.Exc
import KE.KExcInit
import KE.KTryMore
import HandS.ExcOwn
import HandS.ExcIs
import HandS.ExcField
import PyProof.StrBlock2
import KE.KIsAll
import HandS.ExcValue
import HandS.IsInst
import HandS.HotCalls
import HandS.Text
import HandS.Comp
import HandS.Iter
import HandS.Walk
import HandS.More
import HandS.Style
import HandS.ForExc
import HandS.Gcd
import HandS.Lambda
import HandS.DeepEq
import HandS.TupLe
import PyProof.FitsInt
import PyProof.Rows.StrDigits
import HandS.Set
import HandS.SetFor
import KE.KDictList
import HandS.Strs
import HandS.WordsDict
import HandS.ListItems
import HandS.EndTab
import HandS.EndBits
set_option Elab.async false
set_option linter.all false
/-! K00A -/
set_option maxRecDepth 100000
set_option maxHeartbeats 4000000
namespace VW
open PySem L2
def topS (i : Nat) : Stmt := PySem.Challenge.pw_rimtrails_k00_words_and_fractions.main.body.getD i (.Pass ⟨0, 0, 0, 0⟩)
abbrev sdice : Stmt := topS 26
abbrev sroll : Stmt := topS 27
abbrev spick : Stmt := topS 28
theorem scdice : FnScope ["_law_script", "_law_spot", "_law_cell", "_law_left"] ["_law_script", "_law_spot"] (defScope sdice) := ⟨rfl, rfl, rfl, by decide +kernel, rfl, by decide +kernel, by decide +kernel⟩
theorem scroll : FnScope ["_law_dice_here", "_law_total", "_law_found", "_law_one", "_law_two"] ["_law_dice_here", "_law_total"] (defScope sroll) := ⟨rfl, rfl, rfl, by decide +kernel, rfl, by decide +kernel, by decide +kernel⟩
theorem scpick : FnScope ["_law_dice_here", "_law_items"] ["_law_dice_here", "_law_items"] (defScope spick) := ⟨rfl, rfl, rfl, by decide +kernel, rfl, by decide +kernel, by decide +kernel⟩
/-- three ints stand at d -/
def Dice (H : Hp) (d : Addr) : Prop := ∃ a b c : Int, H d = some (.lst [.int a, .int b, .int c])
/-- all that is tracked stays, but for the dice at d -/
def Rolled (d : Addr) (H H' : Hp) : Prop := ∃ a b c : Int, H' = upd H d (.lst [.int a, .int b, .int c])
def spDice (K : PySem.W.Frag) : Sp := fun vs H Q _ => ∃ (s : Addr) (ns : List Int) (j : Nat), vs = [.ref s, .int j] ∧ SqL K H s (ns.map V.int) ∧ ∀ p (a b c : Int), H p = none → Q (.ref p) (upd H p (.lst [.int a, .int b, .int c]))
def spRoll : Sp := fun vs H Q _ => ∃ (d : Addr) (n : Nat), vs = [.ref d, .int n] ∧ 0 < n ∧ n < 1000000 ∧ Dice H d ∧ ∀ (r : Nat) H', r < n → Rolled d H H' → Q (.int r) H'
def spPick : Sp := fun vs H Q _ => ∃ (d l : Addr) (xs : List V), vs = [.ref d, .ref l] ∧ 0 < xs.length ∧ xs.length < 1000000 ∧ Dice H d ∧ H l = some (.lst xs) ∧ d ≠ l ∧ ∀ v H', v ∈ xs → Rolled d H H' → Q v H'
structure Blt (mg : Str → Option Value) : Prop where
  n_len : mg "len" = none
  n_int : mg "int" = none
  n_max : mg "max" = none
  n_min : mg "min" = none
  n_abs : mg "abs" = none
  n_range : mg "range" = none
  n_repr : mg "repr" = none
  n_isinstance : mg "isinstance" = none
section
variable {P : Program} {w : World} {K : PySem.W.Frag} {mg : Str → Option Value} {base : Heap}
theorem ok_dice {f : Addr} {fd : FuncData} (F : Fun K "_law_dice" "_law_dice" sdice f fd) (T : Blt mg) : FnOk P w K mg base CX0 1 f fd ["_law_script", "_law_spot"] (spDice K) := by
  refine F.ok scdice (fun vs H Q E h => ?_) (fun cdv A outer s H vs Q E hr h => ?_)
  · obtain ⟨s, ns, j, rfl, _⟩ := h
    rfl
  · obtain ⟨sc, ns, j, rfl, hs, k⟩ := h
    refine ⟨_, (pss_cons (ps_set (i := 2) scdice.nd rfl (Or.inl rfl) (pe_ifExp (pt_cmpR op_lt (pv 1) (pe_callB call_len_seq (by rfl) T.n_len (by decide +kernel) (pa_cons (pv 0) pa_nil)) (nomark _)) (pe_callTy call_int1 (by rfl) T.n_int (by decide +kernel) (pa_cons (pe_ix ix_list (pv 0) (pv 1) (fun _ _ => rfl)) pa_nil)) (pe_op op_add (pe_op op_mul pe_int (pv 1)) pe_int)))
      (pss_cons (ps_set (i := 3) scdice.nd rfl (Or.inl rfl) (pe_op op_mod (pe_callB (call_max2 rfl) (by rfl) T.n_max (by decide +kernel) (pa_cons pe_int (pa_cons (pe_op op_sub (pe_callB call_abs (by rfl) T.n_abs (by decide +kernel) (pa_cons (pv 2) pa_nil)) (pe_op op_pow pe_int pe_int)) pa_nil))) (pe_op op_mulW (pe_op op_pow pe_int pe_int) (pe_op op_pow pe_int pe_int))))
      (pss_one (ps_ret (pe_lst (pa_cons (pv 3) (pa_cons (pe_op op_add (pe_op op_add (pe_op op_add (pe_op op_mul (pe_op op_mod (pe_callB call_abs (by rfl) T.n_abs (by decide +kernel) (pa_cons (pv 2) pa_nil)) pe_int) pe_int) (pe_op op_mul pe_int (pv 1))) (pe_op op_mul pe_int (pe_callTy call_int1 (by rfl) T.n_int (by decide +kernel) (pa_cons (pe_cmpR op_lt (pv 2) pe_int (nomark _)) pa_nil)))) pe_int) (pa_cons pe_int pa_nil)))))))), ?_⟩
    have pw16 : CPow 10 16 := ⟨by decide, by decide, by decide⟩
    have pw60 : CPow 10 60 := ⟨by decide, by decide, by decide⟩
    have big : CMulW ((10 : Int) ^ (60 : Int).toNat) ((10 : Int) ^ (60 : Int).toNat) := wide_mul (a := 200) (b := 200) (by decide +kernel) (by decide +kernel) (by decide) (by decide) (by decide)
    have pos : (0 : Int) < ((10 : Int) ^ (60 : Int).toNat) * ((10 : Int) ^ (60 : Int).toNat) := by decide +kernel
    refine ⟨_, rfl, _, rfl, sc, _, rfl, .inl hs, _, _, rfl, rfl, _, rfl, ?_⟩
    refine ite2 (fun hc => ?_) (fun hc => ?_)
    · have hj : j < ns.length := by
        have := of_decide_eq_true hc
        rw [List.length_map] at this
        omega
      refine ⟨_, rfl, _, rfl, sc, _, _, V.int ns[j], rfl, rfl, hs, atI_nat (by rw [List.getElem?_map, List.getElem?_eq_getElem hj]; rfl), .inl ⟨_, rfl, ?_⟩⟩
      refine ⟨_, rfl, _, rfl, _, _, rfl, rfl, pw16, _, _, rfl, rfl, _, _, rfl, _, _, rfl, rfl, pw60, _, _, rfl, rfl, pw60, _, _, rfl, rfl, big, _, _, rfl, rfl, pos, ?_⟩
      refine ⟨_, rfl, _, rfl, _, rfl, _, _, rfl, rfl, (by show (0 : Int) < 1152921504606846869; decide), _, _, rfl, rfl, .inr ⟨by decide, by decide⟩, _, rfl, _, _, rfl, rfl, .inl ⟨by decide, by decide⟩, _, _, rfl, rfl, _, rfl, _, _, rfl, rfl, .inr ⟨_, rfl, _, _, rfl, rfl, .inl ⟨by decide, by decide⟩, _, _, rfl, rfl, _, _, rfl, rfl, (by show 3 ≤ sizeLine; decide), fun p hp => k p _ _ _ hp⟩⟩
    · refine ⟨_, rfl, _, _, rfl, rfl, .inl ⟨by decide, by decide⟩, _, _, rfl, rfl, ?_⟩
      refine ⟨_, rfl, _, rfl, _, _, rfl, rfl, pw16, _, _, rfl, rfl, _, _, rfl, _, _, rfl, rfl, pw60, _, _, rfl, rfl, pw60, _, _, rfl, rfl, big, _, _, rfl, rfl, pos, ?_⟩
      refine ⟨_, rfl, _, rfl, _, rfl, _, _, rfl, rfl, (by show (0 : Int) < 1152921504606846869; decide), _, _, rfl, rfl, .inr ⟨by decide, by decide⟩, _, rfl, _, _, rfl, rfl, .inl ⟨by decide, by decide⟩, _, _, rfl, rfl, _, rfl, _, _, rfl, rfl, .inr ⟨_, rfl, _, _, rfl, rfl, .inl ⟨by decide, by decide⟩, _, _, rfl, rfl, _, _, rfl, rfl, (by show 3 ≤ sizeLine; decide), fun p hp => k p _ _ _ hp⟩⟩
theorem dice_len {H : Hp} {d : Addr} {a b c : Int} (h : H d = some (.lst [.int a, .int b, .int c])) : SqL K H d [.int a, .int b, .int c] := SqL.of h
theorem ok_roll {f : Addr} {fd : FuncData} (F : Fun K "_law_roll" "_law_roll" sroll f fd) (T : Blt mg) : FnOk P w K mg base CX0 1 f fd ["_law_dice_here", "_law_total"] spRoll := by
  refine F.ok scroll (fun vs H Q E h => ?_) (fun cdv A outer s H vs Q E hr h => ?_)
  · obtain ⟨d, n, rfl, _⟩ := h
    rfl
  · obtain ⟨d, n, rfl, n0, n1, ⟨a, b, c, hd⟩, k⟩ := h
    refine ⟨_, (pss_cons (ps_if (pt_cmpR op_gt (pe_ix ix_list (pv 0) pe_int (fun _ _ => rfl)) pe_int (nomark _)) (pss_cons (ps_set (i := 2) scroll.nd rfl (Or.inl rfl) (pe_op op_mod (pe_callTy call_int1 (by rfl) T.n_int (by decide +kernel) (pa_cons (pe_ix ix_list (pv 0) pe_int (fun _ _ => rfl)) pa_nil)) (pv 1)))
      (pss_cons (ps_asg (pe_op op_fdiv (pe_ix ix_list (pv 0) pe_int (fun _ _ => rfl)) (pv 1)) (pg_sub (pv 0) pe_int set_list))
      (pss_one (ps_ret (pv 2))))) pss_nil)
      (pss_cons (ps_asg (pe_op op_add (pe_ix ix_list (pv 0) pe_int (fun _ _ => rfl)) pe_int) (pg_sub (pv 0) pe_int set_list))
      (pss_cons (ps_set (i := 3) scroll.nd rfl (Or.inl rfl) (pe_op op_mod (pe_callTy call_int1 (by rfl) T.n_int (by decide +kernel) (pa_cons (pe_op op_add (pe_ix ix_list (pv 0) pe_int (fun _ _ => rfl)) (pe_op op_mul pe_int (pe_ix ix_list (pv 0) pe_int (fun _ _ => rfl)))) pa_nil)) pe_int))
      (pss_cons (ps_set (i := 4) scroll.nd rfl (Or.inl rfl) (pe_op op_add (pe_op op_mul (pe_op op_mod (pe_callTy call_int1 (by rfl) T.n_int (by decide +kernel) (pa_cons (pe_op op_add (pe_op op_mul (pv 3) (pv 3)) (pe_op op_mul pe_int (pe_ix ix_list (pv 0) pe_int (fun _ _ => rfl)))) pa_nil)) pe_int) pe_int) (pv 3)))
      (pss_one (ps_ret (pe_op op_mod (pe_callTy call_int1 (by rfl) T.n_int (by decide +kernel) (pa_cons (pe_op op_fdiv (pv 4) pe_int) pa_nil)) (pv 1)))))))), ?_⟩
    have npos : (0 : Int) < (n : Int) := by omega
    have fin : ∀ z : Int, ∃ r : Nat, r < n ∧ z % (n : Int) = (r : Int) := fun z => by
      have h1 := Int.emod_nonneg z (b := (n : Int)) (by omega)
      have h2 := Int.emod_lt_of_pos z npos
      exact ⟨(z % (n : Int)).toNat, by omega, by omega⟩
    refine ⟨_, rfl, d, _, _, V.int a, rfl, rfl, SqL.of hd, atI_nat (j := 0) rfl, _, _, rfl, rfl, _, rfl, ?_⟩
    refine ite2 (fun hc => ?_) (fun hc => ?_)
    · refine ⟨_, rfl, d, _, _, V.int a, rfl, rfl, SqL.of hd, atI_nat (j := 0) rfl, .inl ⟨_, rfl, _, rfl, _, _, rfl, rfl, npos, ?_⟩⟩
      refine ⟨_, rfl, d, _, _, V.int a, rfl, rfl, SqL.of hd, atI_nat (j := 0) rfl, _, rfl, _, _, rfl, rfl, ⟨npos, by omega⟩, _, rfl, d, _, _, 0, rfl, rfl, hd, rfl, _, rfl, ?_⟩
      obtain ⟨r, h1, er⟩ := fin a
      have q := k r _ h1 ⟨a / (n : Int), b, c, rfl⟩
      rw [← er] at q
      exact q
    · have hd1 : ∀ z, (upd H d (HO.lst [V.int a, V.int b, V.int z])) d = some (HO.lst [V.int a, V.int b, V.int z]) := fun z => upd_same
      have small : ∀ x : Int, -(2 ^ 64) < x % 2305843009213693669 ∧ x % 2305843009213693669 < 2 ^ 64 := fun x => by
        have h1 := Int.emod_nonneg x (b := 2305843009213693669) (by decide)
        have h2 := Int.emod_lt_of_pos x (b := 2305843009213693669) (by decide)
        omega
      refine ⟨_, rfl, d, _, _, V.int c, rfl, rfl, SqL.of hd, atI_nat (j := 2) rfl, _, _, rfl, rfl, _, rfl, d, _, _, 2, rfl, rfl, hd, rfl, ?_⟩
      refine ⟨_, rfl, d, _, _, V.int b, rfl, rfl, SqL.of (hd1 _), atI_nat (j := 1) rfl, _, rfl, d, _, _, V.int (c + 1), rfl, rfl, SqL.of (hd1 _), atI_nat (j := 2) rfl, _, _, rfl, rfl, .inl ⟨by decide, by decide⟩, _, _, rfl, rfl, .inl ⟨_, rfl, _, _, rfl, rfl, (by show (0 : Int) < 2305843009213693669; decide), ?_⟩⟩
      refine ⟨_, rfl, _, rfl, _, _, rfl, rfl, .inl (small _), _, rfl, d, _, _, V.int (c + 1), rfl, rfl, SqL.of (hd1 _), atI_nat (j := 2) rfl, _, _, rfl, rfl, .inl ⟨by decide, by decide⟩, _, _, rfl, rfl, .inl ⟨_, rfl, _, _, rfl, rfl, (by show (0 : Int) < 2305843009213693907; decide), _, _, rfl, rfl, .inr ⟨by decide, by decide⟩, _, rfl, _, _, rfl, rfl, ?_⟩⟩
      refine ⟨_, rfl, _, _, rfl, rfl, ⟨by decide, by decide⟩, .inl ⟨_, rfl, _, rfl, _, _, rfl, rfl, npos, ?_⟩⟩
      obtain ⟨r, h1, er⟩ := fin _
      have q := k r _ h1 ⟨a, b, c + 1, rfl⟩
      rw [← er] at q
      exact q
theorem ok_pick {f fR : Addr} {fd fdR : FuncData} (F : Fun K "_law_pick" "_law_pick" spick f fd) (T : Blt mg) (FR : Fun K "_law_roll" "_law_roll" sroll fR fdR) (gR : mg "_law_roll" = some (.ref fR)) (bR : Binds K fdR ["_law_dice_here", "_law_total"] []) :
    FnOk P w K mg base CX0 2 f fd ["_law_dice_here", "_law_items"] spPick := by
  have GR : FnOk P w K mg base CX0 1 fR fdR ["_law_dice_here", "_law_total"] spRoll := ok_roll FR T
  refine F.ok scpick (fun vs H Q E h => ?_) (fun cdv A outer s H vs Q E hr h => ?_)
  · obtain ⟨d, l, xs, rfl, _⟩ := h
    rfl
  · obtain ⟨d, l, xs, rfl, l0, l1, D, hl, dl, k⟩ := h
    refine ⟨_, (pss_one (ps_ret (pe_ix ix_list (pv 1) (pe_call GR hr rfl gR FR.kp bR .nil pass0 (pa_cons (pv 0) (pa_cons (pe_callB call_len_seq (by rfl) T.n_len (by decide +kernel) (pa_cons (pv 1) pa_nil)) pa_nil))) (fun _ _ => rfl)))), ?_⟩
    refine ⟨_, rfl, _, rfl, _, rfl, l, _, rfl, .inl (SqL.of hl), d, xs.length, rfl, l0, l1, D, fun r H' hr' R => ?_⟩
    obtain ⟨a, b, c, rfl⟩ := id R
    refine ⟨l, xs, _, xs[r], rfl, rfl, SqL.of (by rw [upd_ne dl.symm]; exact hl), atI_nat (List.getElem?_eq_getElem hr'), ?_⟩
    exact k _ _ (List.getElem_mem hr') R
end
end VW
/-! VRepr -/
set_option maxRecDepth 100000
set_option maxHeartbeats 2000000
/-! repr of data of any depth, dicts among it, where no repr is under way -/
namespace VK
open PySem PySem.Spec PyProof.Rows L2
def keyD : Key → PyData
  | .inl i => .int i
  | .inr x => .str x
mutual
/-- v is data d, by what is tracked -/
inductive DR (K : PySem.W.Frag) (H : Hp) : V → PyData → Prop
  | non : DR K H .non .none
  | bl (b : Bool) : DR K H (.bl b) (.bool b)
  | int (i : Int) : DR K H (.int i) (.int i)
  | str (x : Str) : DR K H (.str x) (.str x)
  | lst {a : Addr} {xs : List V} {ds : List PyData} : SqL K H a xs → DRs K H xs ds → DR K H (.ref a) (.list ds)
  | tup {a : Addr} {xs : List V} {ds : List PyData} : SqT K H a xs → DRs K H xs ds → DR K H (.ref a) (.tuple ds)
  | dic {a : Addr} {kvs : List (Key × V)} {ds : List PyData} : H a = some (.dK kvs) → DRs K H (kvs.map (·.2)) ds → DR K H (.ref a) (.dict ((kvs.map fun p => keyD p.1).zip ds))
inductive DRs (K : PySem.W.Frag) (H : Hp) : List V → List PyData → Prop
  | nil : DRs K H [] []
  | cons {v : V} {vs : List V} {d : PyData} {ds : List PyData} : DR K H v d → DRs K H vs ds → DRs K H (v :: vs) (d :: ds)
end
theorem DRs.len {K : PySem.W.Frag} {H : Hp} : ∀ {vs : List V} {ds : List PyData}, DRs K H vs ds → vs.length = ds.length
  | _, _, .nil => rfl
  | _, _, .cons _ r => by simp [DRs.len r]
theorem zip_fst {α β : Type} : ∀ {l : List α} {r : List β}, l.length = r.length → (l.zip r).map (·.1) = l
  | [], [], _ => rfl
  | _ :: l, _ :: r, h => by
    have z := zip_fst (l := l) (r := r) (by simpa using h)
    simp [z]
theorem zip_snd {α β : Type} : ∀ {l : List α} {r : List β}, l.length = r.length → (l.zip r).map (·.2) = r
  | [], [], _ => rfl
  | _ :: l, _ :: r, h => by
    have z := zip_snd (l := l) (r := r) (by simpa using h)
    simp [z]
section
variable {prog : Program} {w : World} {h : Heap}
/-- what a dict's keys and values read as -/
theorem pairs_keys : ∀ {es : List DictEntry} {vs : List (Key × Value)} {kvs : List (Key × V)}, Pairs (mixKind prog w) es vs → KV kvs vs →
    ReadsAll h (es.map (·.key)) (kvs.map fun p => keyD p.1) [] ∧ Vals (kvs.map (·.2)) (es.map (·.val)) := by
  intro es vs kvs hp
  induction hp generalizing kvs with
  | nil =>
    intro r
    cases r
    exact ⟨.nil, .nil⟩
  | @cons e kv es' vs' hk hv hp' ih =>
    intro r
    cases r with
    | @cons p _ l _ rr rt =>
      obtain ⟨k, v⟩ := p
      obtain ⟨k', v'⟩ := kv
      obtain ⟨e1, rv⟩ := rr
      simp only at e1 rv hv
      subst e1
      obtain ⟨h1, h2⟩ := ih rt
      have hkey : Reads h e.key (keyD k) [] := by
        rcases keyIs_shape (show keyIs k e.key = true from hk) with ⟨i, t, rfl, q⟩ | ⟨x, t, rfl, q⟩
        · rw [q]
          exact Reads.int i t
        · rw [q]
          exact Reads.str x t
      refine ⟨by simpa using ReadsAll.cons hkey h1, ?_⟩
      show Vals (v :: _) (e.val :: _)
      rw [hv]
      exact .cons rv h2
end
section
variable {X : Cx} {pins : List (Addr × Obj)} {σ : L2.St} {H : Hp} {s : Shared}
mutual
/-- a tracked datum is shown by the library's own repr of a part, at any guards that are clear of its addresses -/
theorem dr_shows (I : Inv X pins σ H s) : ∀ {v : V} {d : PyData}, DR X.K H v d → ∀ {u : Value}, RelV v u → d.showable = true → d.shown.length ≤ sizeLine →
    ∃ as bs, Reads s.heap u d as ∧ ReadAtMost s.heap d.depth bs ∧ ReprK X.prog X.w bs s.heap d.depth u d.shown
  | _, _, .non, _, r, _, _ => by
    cases r
    exact ⟨_, [], Reads.none, fun _ m => (nomatch m), by simp only [PyData.shown]; exact .of_is ReprIs.none _ _ _⟩
  | _, _, .bl b, _, r, _, _ => by
    cases r
    exact ⟨_, [], Reads.bool b, fun _ m => (nomatch m), by simp only [PyData.shown]; exact .of_is (ReprIs.bool b) _ _ _⟩
  | _, _, .int i, _, r, sh, _ => by
    obtain ⟨t, rfl⟩ := r
    exact ⟨_, [], Reads.int i t, fun _ m => (nomatch m), by simp only [PyData.shown]; exact .of_is (ReprIs.int t (by simpa [PyData.showable] using sh)) _ _ _⟩
  | _, _, .str x, _, r, _, z => by
    obtain ⟨t, rfl⟩ := r
    exact ⟨_, [], Reads.str x t, fun _ m => (nomatch m), by simp only [PyData.shown]; exact .of_is (ReprIs.str x t (by simpa only [PyData.shown] using z)) _ _ _⟩
  | _, _, .lst (a := a) (ds := ds) hs ha, _, r, sh, z => by
      cases r
      have z1 : (listText (PyData.shownAll ds)).length ≤ sizeLine := by simpa only [PyData.shown] using z
      obtain ⟨its, rv, ⟨o, n, ho, hc, _, hd⟩, _⟩ := I.list hs
      obtain ⟨as, bs, ra, rb, rk⟩ := drs_show I ha rv (by simpa [PyData.showable] using sh) (fun t m => Nat.le_trans (listText_mem_le m) z1)
      have rd : Reads s.heap (.ref a) (.list ds) _ := Reads.list ho hc hd ra
      have far : a ∉ bs := not_mem_of_deeper rd (by simp only [PyData.depth]; omega) rb
      refine ⟨_, a :: bs, rd, ReadAtMost.cons rd (by simp only [PyData.depth]; omega) rb, ?_⟩
      simp only [PyData.depth, PyData.shown]
      cases its with
      | nil =>
        cases ra
        simp only [PyData.shownAll, listText_nil]
        exact ReprK.listEmpty ho hc hd
      | cons y ys => exact ReprK.list ho hc hd far (by simpa using rk.length_eq) (fun i y e => rk.item i y (by simpa using e))
  | _, _, .tup (a := a) (ds := ds) hs ha, _, r, sh, z => by
      cases r
      have z1 : (tupleText (PyData.shownAll ds)).length ≤ sizeLine := by simpa only [PyData.shown] using z
      obtain ⟨its, rv, ⟨o, ho, hc, n, hd⟩, _⟩ := I.tuple hs
      obtain ⟨as, bs, ra, rb, rk⟩ := drs_show I ha rv (by simpa [PyData.showable] using sh) (fun t m => Nat.le_trans (tupleText_mem_le m) z1)
      have rd : Reads s.heap (.ref a) (.tuple ds) _ := Reads.tuple ho hc hd ra
      have far : a ∉ bs := not_mem_of_deeper rd (by simp only [PyData.depth]; omega) rb
      refine ⟨_, a :: bs, rd, ReadAtMost.cons rd (by simp only [PyData.depth]; omega) rb, ?_⟩
      simp only [PyData.depth, PyData.shown]
      exact ReprK.tuple ho hc hd far (by simpa using rk)
  | _, _, .dic (a := a) (kvs := kvs) (ds := ds) hs ha, _, r, sh, z => by
      cases r
      obtain ⟨_, hsys, vs, kv, o, es, ep, ho, hx, hd, _, hp, _⟩ := (show ObjOk X.prog X.w H s.heap a (.dK kvs) from I.hok a _ hs)
      have ln : (kvs.map fun p => keyD p.1).length = ds.length := by
        have := ha.len
        simpa using this
      obtain ⟨rk0, rv⟩ := pairs_keys (h := s.heap) hp kv
      have z1 : (dictText (PyData.shownKv ((kvs.map fun p => keyD p.1).zip ds))).length ≤ sizeLine := by simpa only [PyData.shown] using z
      obtain ⟨s1, s2⟩ := PyData.showableKv_split _ (by simpa [PyData.showable] using sh)
      rw [zip_fst ln] at s1
      rw [zip_snd ln] at s2
      have hv : ∀ t ∈ PyData.shownAll ds, t.length ≤ sizeLine := fun t m => by
        rw [← zip_snd ln] at m
        obtain ⟨p, h1, h2⟩ := PyData.shownKv_val_le _ t m
        exact Nat.le_trans h2 (Nat.le_trans (dictText_mem_le h1) z1)
      obtain ⟨as, bs, ra, rb, rk⟩ := drs_show I ha rv s2 hv
      obtain ⟨b1, hb1, k1⟩ := ReprAllK.of_readsAll (prog := X.prog) (w := X.w) rk0 s1 (fun _ m => (nomatch m)) (fun t m => by
        rw [← zip_fst ln] at m
        obtain ⟨p, h1, h2⟩ := PyData.shownKv_key_le _ t m
        exact Nat.le_trans h2 (Nat.le_trans (dictText_mem_le h1) z1))
      have d1 : PyData.depthAll (kvs.map fun p => keyD p.1) ≤ PyData.depthKv ((kvs.map fun p => keyD p.1).zip ds) := by
        have := PyData.depthAll_keys_le ((kvs.map fun p => keyD p.1).zip ds)
        rw [zip_fst ln] at this
        exact this
      have d2 : PyData.depthAll ds ≤ PyData.depthKv ((kvs.map fun p => keyD p.1).zip ds) := by
        have := PyData.depthAll_vals_le ((kvs.map fun p => keyD p.1).zip ds)
        rw [zip_snd ln] at this
        exact this
      have rd : Reads s.heap (.ref a) (.dict ((kvs.map fun p => keyD p.1).zip ds)) _ := Reads.dict ho hx.1 hd (by rw [zip_fst ln]; exact rk0) (by rw [zip_snd ln]; exact ra)
      have hb := (hb1.mono d1).append (rb.mono d2)
      have far : a ∉ b1 ++ bs := not_mem_of_deeper rd (by simp only [PyData.depth]; omega) hb
      refine ⟨_, a :: (b1 ++ bs), rd, ReadAtMost.cons rd (by simp only [PyData.depth]; omega) hb, ?_⟩
      have e := ReprEntriesK.of_two es.toList _ _ (k1.more_le (fun b m => List.mem_append_left _ m) d1) (rk.more_le (fun b m => List.mem_append_right _ m) d2)
      simp only [PyData.depth, PyData.shown, PyData.shownKv_eq, zip_fst ln, zip_snd ln]
      exact ReprK.dict ho hx.1 hd hsys far e
theorem drs_show (I : Inv X pins σ H s) : ∀ {vs : List V} {ds : List PyData}, DRs X.K H vs ds → ∀ {us : List Value}, Vals vs us → PyData.showableAll ds = true → (∀ t ∈ PyData.shownAll ds, t.length ≤ sizeLine) →
    ∃ as bs, ReadsAll s.heap us ds as ∧ ReadAtMost s.heap (PyData.depthAll ds) bs ∧ ReprAllK X.prog X.w bs s.heap (PyData.depthAll ds) us (PyData.shownAll ds)
  | _, _, .nil, _, r, _, _ => by
    cases r
    exact ⟨_, [], ReadsAll.nil, fun _ m => (nomatch m), by simp only [PyData.shownAll]; exact .nil⟩
  | _, _, .cons (d := d) (ds := ds) q1 q2, _, r, sh, z => by
      cases r with
      | cons r1 r2 =>
        have sh' : d.showable = true ∧ PyData.showableAll ds = true := by simpa [PyData.showableAll] using sh
        obtain ⟨as, bs, ra, rb, rk⟩ := dr_shows I q1 r1 sh'.1 (z _ (by simp only [PyData.shownAll]; exact List.mem_cons_self ..))
        obtain ⟨as', bs', ra', rb', rk'⟩ := drs_show I q2 r2 sh'.2 (fun t m => z t (by simp only [PyData.shownAll]; exact List.mem_cons_of_mem _ m))
        refine ⟨_, bs ++ bs', ReadsAll.cons ra ra', (rb.mono (by simp only [PyData.depthAll]; omega)).append (rb'.mono (by simp only [PyData.depthAll]; omega)), ?_⟩
        simp only [PyData.depthAll, PyData.shownAll]
        exact .cons ((rk.more fun b m => List.mem_append_left _ m).level_le (by omega)) (rk'.more_le (fun b m => List.mem_append_right _ m) (by omega))
end
end
section
variable {X : Cx} {pins : List (Addr × Obj)} {σ : L2.St} {H : Hp} {s : Shared}
/-- the parts of a shown dict -/
theorem showsD (I : Inv X pins σ H s) {a : Addr} {kvs : List (Key × V)} {ds : List PyData} (hs : H a = some (.dK kvs)) (ha : DRs X.K H (kvs.map (·.2)) ds) (sh : (PyData.dict ((kvs.map fun p => keyD p.1).zip ds)).showable = true)
    (z : (PyData.dict ((kvs.map fun p => keyD p.1).zip ds)).shown.length ≤ sizeLine) :
    ∃ o es n, s.heap.get? a = some o ∧ o.cls = .type "dict" ∧ o.data = .dict es n ∧ (a == sysModules) = false ∧ ∃ bs, a ∉ bs ∧
      ReprEntriesK X.prog X.w bs s.heap (PyData.depthKv ((kvs.map fun p => keyD p.1).zip ds)) es.toList (PyData.shownKv ((kvs.map fun p => keyD p.1).zip ds)) := by
  obtain ⟨_, hsys, vs, kv, o, es, ep, ho, hx, hd, _, hp, _⟩ := (show ObjOk X.prog X.w H s.heap a (.dK kvs) from I.hok a _ hs)
  have ln : (kvs.map fun p => keyD p.1).length = ds.length := by
    have := ha.len
    simpa using this
  obtain ⟨rk0, rv⟩ := pairs_keys (h := s.heap) hp kv
  have z1 : (dictText (PyData.shownKv ((kvs.map fun p => keyD p.1).zip ds))).length ≤ sizeLine := by simpa only [PyData.shown] using z
  obtain ⟨s1, s2⟩ := PyData.showableKv_split _ (by simpa [PyData.showable] using sh)
  rw [zip_fst ln] at s1
  rw [zip_snd ln] at s2
  obtain ⟨as, bs, ra, rb, rk⟩ := drs_show I ha rv s2 (fun t m => by
    rw [← zip_snd ln] at m
    obtain ⟨p, h1, h2⟩ := PyData.shownKv_val_le _ t m
    exact Nat.le_trans h2 (Nat.le_trans (dictText_mem_le h1) z1))
  obtain ⟨b1, hb1, k1⟩ := ReprAllK.of_readsAll (prog := X.prog) (w := X.w) rk0 s1 (fun _ m => (nomatch m)) (fun t m => by
    rw [← zip_fst ln] at m
    obtain ⟨p, h1, h2⟩ := PyData.shownKv_key_le _ t m
    exact Nat.le_trans h2 (Nat.le_trans (dictText_mem_le h1) z1))
  have d1 : PyData.depthAll (kvs.map fun p => keyD p.1) ≤ PyData.depthKv ((kvs.map fun p => keyD p.1).zip ds) := by
    have := PyData.depthAll_keys_le ((kvs.map fun p => keyD p.1).zip ds)
    rw [zip_fst ln] at this
    exact this
  have d2 : PyData.depthAll ds ≤ PyData.depthKv ((kvs.map fun p => keyD p.1).zip ds) := by
    have := PyData.depthAll_vals_le ((kvs.map fun p => keyD p.1).zip ds)
    rw [zip_snd ln] at this
    exact this
  have rd : Reads s.heap (.ref a) (.dict ((kvs.map fun p => keyD p.1).zip ds)) _ := Reads.dict ho hx.1 hd (by rw [zip_fst ln]; exact rk0) (by rw [zip_snd ln]; exact ra)
  have hb := (hb1.mono d1).append (rb.mono d2)
  have far : a ∉ b1 ++ bs := not_mem_of_deeper rd (by simp only [PyData.depth]; omega) hb
  have e := ReprEntriesK.of_two es.toList _ _ (k1.more_le (fun b m => List.mem_append_left _ m) d1) (rk.more_le (fun b m => List.mem_append_right _ m) d2)
  refine ⟨o, es, ep, ho, hx.1, hd, hsys, b1 ++ bs, far, ?_⟩
  rw [PyData.shownKv_eq, zip_fst ln, zip_snd ln]
  exact e
end
/-- repr(v), v a tracked datum, nothing being shown around -/
def rRepr (K : PySem.W.Frag) : List V → Hp → VK → Prop := fun xs H Q => ∃ v d, xs = [v] ∧ DR K H v d ∧ d.showable = true ∧ d.depth ≤ 60 ∧ d.shown.length ≤ sizeLine ∧ Q (.str d.shown) H
section
variable {X : Cx}
theorem call_reprD (hg : X.A.guards = some []) (hu : X.A.units + 64 < cLine) : CallR X (.builtin "repr") (rRepr X.K) := by
  intro pins s σ H xs us Q I r q
  obtain ⟨v, d, rfl, hd, sh, dp, z, q⟩ := q
  obtain ⟨u, rfl, r1⟩ := vals1 r
  have lid : X.A.in1.guards = some [] := hg
  have same : ∀ b o, s.heap.get? b = some o → s.heap.get? b = some o := fun _ _ e => e
  have done : ∀ (x : Str) (h' : Heap) (t : Tok) (tk : Nat), (∀ b o, s.heap.get? b = some o → h'.get? b = some o) → Q (.str x) H → EP X pins σ Q (.str x t) { s with heap := h', toks := tk } := fun x h' t tk k q =>
    ⟨.str x, H, I.kept (h' := h') (t' := tk) k, ⟨t, rfl⟩, q⟩
  cases hd with
  | non =>
    cases r1
    exact PySem.P.repr_of_none (done _ s.heap _ _ same q)
  | bl b =>
    cases r1
    exact PySem.P.repr_of_bool (done _ s.heap _ _ same q)
  | int i =>
    obtain ⟨t, rfl⟩ := r1
    exact PySem.P.repr_of_int (by simpa [PyData.showable] using sh) (done _ s.heap _ _ same q)
  | str x =>
    obtain ⟨t, rfl⟩ := r1
    exact PySem.P.repr_of_str (done _ s.heap _ _ same (by simpa only [PyData.shown] using q)) (by simpa only [PyData.shown] using z)
  | @lst a xs ds hs ha =>
    cases r1
    have z1 : (listText (PyData.shownAll ds)).length ≤ sizeLine := by simpa only [PyData.shown] using z
    obtain ⟨its, rv, ⟨o, n, ho, hc, _, hd⟩, _⟩ := I.list hs
    obtain ⟨as, bs, ra, rb, rk⟩ := drs_show I ha rv (by simpa [PyData.showable] using sh) (fun t m => Nat.le_trans (listText_mem_le m) z1)
    have rd : Reads s.heap (.ref a) (.list ds) _ := Reads.list ho hc hd ra
    have far : a ∉ bs := not_mem_of_deeper rd (by simp only [PyData.depth]; omega) rb
    simp only [PyData.depth] at dp
    simp only [PyData.shown] at q
    refine call_repr_slot (by omega) ⟨o, ho, hc⟩ F.slot_list_repr.toG ?_
    cases its with
    | nil =>
      cases ra
      simp only [PyData.shownAll, listText_nil] at q
      exact call_list_repr_empty ⟨o, ho, hc⟩ ho hd ⟨_, _, rfl, done _ s.heap _ _ same q⟩
    | cons y ys =>
      refine call_list_reprK ho hc hd far (by simpa using rk.length_eq) (fun i y e => rk.item i y (by simpa using e)) lid (fun b _ => Clear.nil b) (by show X.A.units + 1 + _ < cLine; omega) same (fun h' u tk k => ⟨_, _, rfl, done _ h' _ _ k q⟩) z1
  | @tup a xs ds hs ha =>
    cases r1
    have z1 : (tupleText (PyData.shownAll ds)).length ≤ sizeLine := by simpa only [PyData.shown] using z
    obtain ⟨its, rv, ⟨o, ho, hc, n, hd⟩, _⟩ := I.tuple hs
    obtain ⟨as, bs, ra, rb, rk⟩ := drs_show I ha rv (by simpa [PyData.showable] using sh) (fun t m => Nat.le_trans (tupleText_mem_le m) z1)
    have rd : Reads s.heap (.ref a) (.tuple ds) _ := Reads.tuple ho hc hd ra
    have far : a ∉ bs := not_mem_of_deeper rd (by simp only [PyData.depth]; omega) rb
    simp only [PyData.depth] at dp
    simp only [PyData.shown] at q
    refine call_repr_slot (by omega) ⟨o, ho, hc⟩ F.slot_tuple_repr ?_
    exact call_tuple_reprK ho hc hd far (by simpa using rk) lid (fun b _ => Clear.nil b) (by show X.A.units + 1 + _ < cLine; omega) same (fun h' u tk k => ⟨_, _, rfl, done _ h' _ _ k q⟩) z1
  | dic hs ha =>
    cases r1
    obtain ⟨o, es, n, ho, hc, hd, hsys, b1, far, en⟩ := showsD I hs ha sh z
    simp only [PyData.depth] at dp
    simp only [PyData.shown] at q z
    refine call_repr_slot (by omega) ⟨o, ho, hc⟩ F.slot_dict_repr ?_
    exact call_dict_reprK ho hc hd hsys far en lid (fun b _ => Clear.nil b) (by show X.A.units + 1 + _ < cLine; omega) same (fun h' u tk k => ⟨_, _, rfl, done _ h' _ _ k q⟩) z
end
end VK
/-! VGuard -/
set_option maxRecDepth 100000
set_option maxHeartbeats 2000000
/-! defs that are called where no repr is under way: the promise FnG, its calls, a law's end by it -/
namespace VK
open PySem PySem.Spec PyProof.Rows L2
/-- as FnOk, asked only where no repr is under way around the call -/
structure FnG (P : Program) (w : World) (K : PySem.W.Frag) (mg : Str → Option Value) (base : Heap) (CX : CXT) (k : Nat) (f : Addr) (fd : FuncData) (ps : List Str) (sp : Sp) : Prop where
  len : ∀ vs H Q E, sp vs H Q E → vs.length = ps.length
  go : ∀ (A : Around) (outer : List Env) (s : Shared) (H : Hp) (args : Args) (us : List Value) (vs : List V) (Q : VK) (E : XK), A.guards = some [] → Room k A →
    Env0 P w K mg base A outer s H → BindsTo s fd args (ps.zip us) → Vals vs us → sp vs H Q E → codeAny (model P w) A (.call (.ref f) args) (CR CX outer P w H s Q E) s
section
variable {P : Program} {w : World} {K : PySem.W.Frag} {mg : Str → Option Value} {base : Heap} {CX : CXT} {k : Nat} {f : Addr} {fd : FuncData} {ps : List Str} {sp : Sp}
theorem FnG.of (F : FnOk P w K mg base CX k f fd ps sp) : FnG P w K mg base CX k f fd ps sp :=
  ⟨F.len, fun A outer s H args us vs Q E _ => F.run A outer s H args us vs Q E⟩
/-- a def's body, walked where no repr is under way -/
theorem Fun.okG {x qual : Str} {st : Stmt} {N : List Str} (F : Fun K x qual st f fd) (S : FnScope N ps (defScope st)) (len : ∀ vs H Q E, sp vs H Q E → vs.length = ps.length)
    (hbody : ∀ (cdv : Value) (A : Around) (outer : List Env) (s : Shared) (H : Hp) (vs : List V) (Q : VK) (E : XK),
      (cxOf CX0 P w K mg base N qual (defScope st) f cdv A outer s H E).A.guards = some [] → Room k (A.deeper (envOfC qual (defScope st) s.heap.objs.size f cdv)) → sp vs H Q E →
      ∃ t, PSs (cxOf CX0 P w K mg base N qual (defScope st) f cdv A outer s H E) (defBody st) t ∧ t { nx := fun _ H' => Q .non H', rt := Q } (start N vs) H) :
    FnG P w K mg base CX0 (k + 1) f fd ps sp := by
  obtain ⟨oc, od, kV, doc, pm, an, cdv, ct, osl, rfl, lk, hcd⟩ := F.ex
  refine ⟨len, fun A outer s H args us vs Q E hg hr e0 hb r hsp => ?_⟩
  have KX := e0.mod.kin.keeps fun b o e => (e0.bs b o e).1
  have lim := e0.mod.nolimit.keeps fun b o e => (e0.bs b o e).1
  refine codeAny_call_function hr.depth (KX _ _ lk) rfl S.co S.gen rfl (PySem.W.codeRec_of KX hcd) (hb _ _ _ _ ?_)
  refine wpAny_newFunctionEnv_cells S.kind (fun ⟨n, v⟩ hy => ?_) fun env he s1 x => ?_
  · rcases S.par n (List.of_mem_zip hy).1 with q | q
    · exact .inl q
    · exact .inr ⟨q, PySem.W.cellsFrom_some _ _ _ (.inl q)⟩
  · subst he
    obtain ⟨t, ht, hq⟩ := hbody cdv A outer s H vs Q E hg (hr.deeper _) hsp
    refine ⟨lim.keeps x.toInCall.keep, codeAny_func (wpAny_mono (ht.run [] s1 _ H _ (inv_start S hr.hd e0 (len _ _ _ _ hsp) r x) hq) (fun fl s' hs => ?_) fun e s' hs => hs)⟩
    cases fl with
    | ret u =>
      obtain ⟨v, σ', H', J, rv, q⟩ := hs
      exact ⟨v, H', J.os, J.bare, J.base, J.hok, rv, q⟩
    | next =>
      obtain ⟨σ', H', J, q⟩ := hs
      exact ⟨.non, H', J.os, J.bare, J.base, J.hok, rfl, q⟩
    | brk =>
      obtain ⟨_, _, _, q⟩ := hs
      exact q.elim
    | cont =>
      obtain ⟨_, _, _, q⟩ := hs
      exact q.elim
end
section
variable {X : Cx} {CX : CXT} {k : Nat} {f : Addr} {fd : FuncData} {ps : List Str} {sp : Sp} {E : XK} {x : Str} {p pos : Pos} {e : Expr} {es : List Expr} {t : TA}
theorem go_fnG {pins : List (Addr × Obj)} {σ : L2.St} {H : Hp} {s : Shared} {Q : VK} {us : List Value} {vs : List V} (F : FnG X.prog X.w X.K X.mg X.base CX k f fd ps sp) (hg : X.A.guards = some []) (hr : Room k X.A) (hb : Binds X.K fd ps []) (hx : Passes CX X E)
    (I : Inv X pins σ H s) (r : Vals vs us) (h : sp vs H Q E) : wpAny (model X.prog X.w) X.A (call (.ref f) us) (EP X pins σ Q) X.xe s := by
  have hl : us.length = ps.length := r.length.symm.trans (F.len _ _ _ _ h)
  have b := hb s us I.kIn (by rw [List.append_nil]; exact hl)
  rw [List.append_nil] at b
  refine wpAny_call (codeAny_mono (F.go X.A X.stack s H ⟨us, []⟩ us vs Q E hg hr I.env0 b r h) fun r s' hq => ?_)
  match r, hq with
  | .error e, hq => exact hx pins σ H s e s' I hq
  | .ok (.ret u), hq => exact I.after hq
/-- f(e, ..) -/
theorem pe_callG (F : FnG X.prog X.w X.K X.mg X.base CX k f fd ps sp) (hgd : X.A.guards = some []) (hr : Room k X.A) (hg : Gl X x) (hm : X.mg x = some (.ref f)) (hk : PySem.W.keepIn X.K (.ref f) = true) (hb : Binds X.K fd ps []) (hx : Passes CX X E)
    (ha : PA X (e :: es) t) (hdb : (x == ("__debug__" : Str)) = false := by decide) (he : starEach (e :: es) X.env = (false, eval e X.env) :: starEach es X.env := by rfl) (hpl : (backTo pos (starEach es X.env)).any (·.1) = false := by rfl) :
    PE X (.Call (.Name x p) (e :: es) [] pos) (fun σ H Q => t σ H fun vs H1 => sp vs H1 Q E) := by
  refine ⟨fun pins s σ H Q I h => wpAny_Call_Name_kw (ld_glob I hg hm ?_ hdb)⟩
  exact PySem.W.callWith_K (h₀ := X.base) I.ok.mod.kin hk (thn (ha.run pos pins s σ H _ I h) fun us s1 ⟨vs, H1, I1, r, q⟩ => ⟨I1.kIn, go_fnG F hgd hr hb hx I1 r q⟩) he hpl
/-- f() -/
theorem pe_callG0 (F : FnG X.prog X.w X.K X.mg X.base CX k f fd ps sp) (hgd : X.A.guards = some []) (hr : Room k X.A) (hg : Gl X x) (hm : X.mg x = some (.ref f)) (hk : PySem.W.keepIn X.K (.ref f) = true) (hb : Binds X.K fd ps []) (hx : Passes CX X E)
    (hdb : (x == ("__debug__" : Str)) = false := by decide) : PE X (.Call (.Name x p) [] [] pos) (fun σ H Q => sp [] H Q E) := by
  refine ⟨fun pins s σ H Q I h => wpAny_Call_Name_kw (ld_glob I hg hm ?_ hdb)⟩
  exact PySem.W.callWith_K0 I.kIn hk (go_fnG (us := []) F hgd hr hb hx I .nil h)
end
/-! ### the law's own call -/
section
variable {P : Program} {w : World} {K : PySem.W.Frag} {mg mb : Str → Option Value} {k : Nat} {fa a : Addr} {fd : FuncData} {x : Str} {sp : Sp} {s₁ : Shared} {vs : List Value} {ns : List Int}
/-- the script, locked, where it is no object of the written part -/
def scriptH (K : PySem.W.Frag) (a : Addr) (vs : List Value) (ns : List Int) : Hp := fun b => if b = a ∧ (K.lookup a).isNone = true then some (.frz { cls := .type "list", data := .seq vs.toArray } (.lst (ns.map V.int))) else none
theorem scriptH_some {b : Addr} {o : HO} (h : scriptH K a vs ns b = some o) : b = a ∧ K.lookup a = none ∧ o = .frz { cls := .type "list", data := .seq vs.toArray } (.lst (ns.map V.int)) := by
  unfold scriptH at h
  by_cases c : b = a ∧ (K.lookup a).isNone = true
  · rw [if_pos c] at h
    exact ⟨c.1, Option.isNone_iff_eq_none.mp c.2, (Option.some.inj h).symm⟩
  · rw [if_neg c] at h
    cases h
theorem law_callG (KX : K.In s₁.heap) (hns : s₁.heap.Ns mainGlobals mg) (hb : s₁.heap.Ns builtinsNs mb) (hbb : ∀ x : Str, x ≠ "__name__" → mb x = bootBuiltins x) (hlim : s₁.heap.NoLimit) (hg : s₁.gens = #[])
    (ha : s₁.heap.get? a = some { cls := .type "list", data := .seq vs.toArray }) (hi : IntsAre vs ns) (hl : ns.length ≤ sizeLine) (hr : Room k callerA)
    (F : ∀ base : Heap, K.In base → base.Ns mainGlobals mg → FnG P w K mg base CX0 k fa fd [x] sp) (hbind : ∀ (s : Shared) (u : Value), BindsTo s fd ⟨[u], []⟩ [(x, u)])
    (hsp : ∀ H : Hp, SqL K H a (ns.map V.int) → sp [.ref a] H (fun v _ => v = .bl true) fun _ _ _ => False) :
    codeAny (model P w) callerA (.call (.ref fa) ⟨[.ref a], []⟩) (fun r s' => r = .ok (.ret (.bool true)) ∧ OldK s₁.heap s'.heap ∧ s'.os = s₁.os ∧ AllBare s'.gens) s₁ := by
  have rv := vals_ints hi
  obtain ⟨H, eH⟩ : ∃ H, H = scriptH K a vs ns := ⟨_, rfl⟩
  have some_ : ∀ {b : Addr} {o : HO}, H b = some o → b = a ∧ K.lookup a = none ∧ o = .frz { cls := .type "list", data := .seq vs.toArray } (.lst (ns.map V.int)) := fun {b o} e => scriptH_some (K := K) (vs := vs) (ns := ns) (by rw [← eH]; exact e)
  have hS : SqL K H a (ns.map V.int) := by
    cases q : K.lookup a with
    | none => exact .inl (.inr ⟨_, by rw [eH]; exact if_pos ⟨rfl, by rw [q]; rfl⟩⟩)
    | some o =>
      have e := KX a o q
      rw [ha] at e
      cases e
      exact .inr ⟨_, vs.toArray, _, q, rfl, rfl, rfl, by rw [List.size_toArray, hi.length]; exact hl, by simpa using rv⟩
  have hok : HOk P w H s₁.heap := fun b o e => by
    obtain ⟨rfl, _, rfl⟩ := some_ e
    exact ⟨ha, by rw [List.length_map]; exact hl, vs, _, rv, ha⟩
  have none_ : ∀ {b : Addr} {o : Obj} {es : Array DictEntry} {ep : Nat}, s₁.heap.get? b = some o → o.data = .dict es ep → H b = none := fun {b o es ep} e d => by
    cases q : H b with
    | none => rfl
    | some u =>
      obtain ⟨rfl, _, _⟩ := some_ q
      rw [ha] at e
      cases e
      exact Data.noConfusion d
  have ns_ : ∀ {b : Addr} {m : Str → Option Value}, s₁.heap.Ns b m → (hidT s₁.heap H).Ns b m := fun {b m} ⟨o, es, ep, e, d, r⟩ => ⟨o, es, ep, hidT_get e (none_ e d), d, r⟩
  have kb : K.In (hidT s₁.heap H) := fun b o e => hidT_get (KX b o e) (by
    cases q : H b with
    | none => rfl
    | some u =>
      obtain ⟨rfl, z, _⟩ := some_ q
      rw [z] at e
      cases e)
  have e0 : Env0 P w K mg (hidT s₁.heap H) callerA [] s₁ H :=
    { frames := rfl, mod := ⟨kb, ns_ hns, ⟨mb, ns_ hb, hbb⟩, by obtain ⟨mc, h1, h2⟩ := hlim; exact ⟨mc, ns_ h1, h2⟩⟩, bs := fun b o e => of_hidT e, bsz := Nat.le_of_eq (hidT_size _ _), funs := trivial, frf := fun b z => (by cases z), hok := hok, bare := .of_eq hg }
  refine codeAny_mono ((F _ kb (ns_ hns)).go callerA [] s₁ H ⟨[.ref a], []⟩ [.ref a] [.ref a] _ _ rfl hr e0 (hbind s₁ (.ref a)) (.cons rfl .nil) (hsp H hS)) fun r s' h => ?_
  match r, h with
  | .error e, h => exact h.elim
  | .ok (.ret u), h =>
    obtain ⟨v, H', os, bare, un, hok', rel, q⟩ := h
    have q' : v = .bl true := q
    subst q'
    have eu : u = Value.bool true := rel
    refine ⟨by rw [eu], OldK.of_keep fun b o e => ?_, os, bare⟩
    cases z : H b with
    | none => exact un.keep b o e z (fun m => by cases m) (fun m => by cases m)
    | some u' =>
      obtain ⟨rfl, _, rfl⟩ := some_ z
      have same := (hok' _ _ (un.frzs _ _ _ z)).1
      rw [ha] at e
      cases e
      exact same
theorem walk_ofG {l : PySem.W.OpenLaw} {n : Nat} {q : Program} {loose : List Str} {XP : (Str → Option Value) → Heap → Prop} {YP : World → Heap → Prop} {d : DefRec} {K : Params → PySem.W.Frag} {sp : PySem.W.Frag → Sp}
    (hn : l.most = some n) (hn2 : n ≤ sizeLine) (hdf : d.params.defaults = []) (hr : Room k callerA) (hY : ∀ (w : World) (h : Heap), YP w h → (K w.params).In h)
    (F : ∀ (w : World) (mg : Str → Option Value) (fa : Addr) (h : Heap), (K w.params).In h → h.Ns mainGlobals mg → mg d.name = some (.ref fa) →
      ∃ fd : FuncData, (∀ (s : Shared) (u : Value), BindsTo s fd ⟨[u], []⟩ [(x, u)]) ∧ ∀ base : Heap, (K w.params).In base → base.Ns mainGlobals mg → FnG l.prog w (K w.params) mg base CX0 k fa fd [x] (sp (K w.params)))
    (hsp : ∀ (K : PySem.W.Frag) (H : Hp) (a : Addr) (ns : List Int), ns.length ≤ n → SqL K H a (ns.map V.int) → sp K [.ref a] H (fun v _ => v = .bl true) fun _ _ _ => False) :
    PySem.W.WalkO q loose XP YP l.row.toRowW d [] (fun f vs => PySem.call f vs) := by
  refine Att.attach_call hn hdf fun w s₀ s₁ mg mb fa o pm cd doc a vs ns G Y _ _ _ hmg hobj hints hlen hg => ?_
  obtain ⟨fd, hb, hF⟩ := F w mg fa _ (hY w _ Y) G.T.g hmg
  exact law_callG (hY w _ Y) G.T.g G.T.b G.T.builtins G.T.nolimit hg hobj hints (Nat.le_trans hlen hn2) hr hF hb fun H hS => hsp _ H a ns hlen hS
end
end VK
/-! VTry -/
set_option maxRecDepth 100000
set_option maxHeartbeats 2000000
/-! try with several except clauses, each with a name or without one -/
namespace VK
open PySem PySem.Spec PyProof.Rows L2
/-- a clause: its class, its name's slot, its suite's reading -/
structure Cl where
  cls : Value
  slot : Option Nat
  suite : Addr → Value → Option Addr → L2.TS
/-- behind a suite the clause's name is gone -/
def gone (o : Option Nat) (D : Ends) : Ends := match o with
  | none => D
  | some i => { nx := fun σ H => D.nx (σ.set i none) H, rt := D.rt, bk := fun σ H => D.bk (σ.set i none) H, ct := fun σ H => D.ct (σ.set i none) H }
def named (o : Option Nat) (a : Addr) (σ : L2.St) : L2.St := match o with
  | none => σ
  | some i => σ.set i (some (.ref a))
/-- what the clauses want of an exception -/
def wCl (K : PySem.W.Frag) (out : WX) (D : Ends) : List Cl → WX
  | [] => out
  | q :: r => fun cls d σ H => ∃ b, PySem.W.exmOne K cls q.cls = some b ∧ (b = true → ∀ a, H a = none → q.suite a cls d (gone q.slot D) (named q.slot a σ) H) ∧ (b = false → wCl K out D r cls d σ H)
/-- the clauses of the text are these -/
inductive Cls_ (X : Cx) : List ExceptHandler → List Cl → Prop
  | nil : Cls_ X [] []
  | plain {x : Str} {c : Value} {ts : Addr → Value → Option Addr → L2.TS} {b₀ : Stmt} {suite : List Stmt} {np pos' : Pos} {hds : List ExceptHandler} {l : List Cl} (hc : Names X x c)
      (hs : ∀ (a : Addr) (oe : Obj) (cls : Value) (d : Option Addr) (pn : List (Addr × Obj)), Zc cls d oe → (∃ vs, oe.data = .fields vs) → PSs (X.suite a ((a, oe) :: pn)) (b₀ :: suite) (ts a cls d)) (r : Cls_ X hds l) :
      Cls_ X (.ExceptHandler (some (.Name x np)) none (b₀ :: suite) pos' :: hds) (⟨c, none, ts⟩ :: l)
  | as {x n : Str} {i : Nat} {c : Value} {ts : Addr → Value → Option Addr → L2.TS} {b₀ : Stmt} {suite : List Stmt} {np pos' : Pos} {hds : List ExceptHandler} {l : List Cl} (hN : X.N.Nodup) (hi : X.N[i]? = some n) (hl : X.env.kindOf n = some .local) (hc : Names X x c)
      (hs : ∀ (a : Addr) (oe : Obj) (cls : Value) (d : Option Addr) (pn : List (Addr × Obj)), Zc cls d oe → (∃ vs, oe.data = .fields vs) → PSs (X.suite a ((a, oe) :: pn)) (b₀ :: suite) (ts a cls d)) (r : Cls_ X hds l) :
      Cls_ X (.ExceptHandler (some (.Name x np)) (some n) (b₀ :: suite) pos' :: hds) (⟨c, some i, ts⟩ :: l)
section
variable {X : Cx}
/-- an exception that has come down in this frame -/
structure Down (X : Cx) (pins : List (Addr × Obj)) (σ : L2.St) (H : Hp) (cls : Value) (d : Option Addr) (a : Addr) (B : Heap) (sI s' : Shared) : Prop where
  inv : Inv X pins σ H sI
  gr : ∀ b o, sI.heap.get? b = some o → b ∉ frs X.stack → B.get? b = some o
  up : sI.heap.UpToSlots s'.heap
  fl : HandSPX.FlyingZ B (X.env :: X.outer) a (Zc cls d) s'.heap
  na : H a = none
  os : s'.os = sI.os
  ag : AllBare s'.gens
variable {pins : List (Addr × Obj)} {σ : L2.St} {H : Hp} {cls : Value} {d : Option Addr} {a : Addr} {B : Heap} {sI s' : Shared}
theorem Down.here (D : Down X pins σ H cls d a B sI s') : Inv X pins σ H s' := D.inv.landed D.gr D.fl.1 D.up D.os D.ag
theorem Down.again (D : Down X pins σ H cls d a B sI s') {h4 : Heap} (f : HandSPX.FlyingZ B (X.env :: X.outer) a (Zc cls d) h4) (u : s'.heap.UpToSlots h4) : Down X pins σ H cls d a B sI { s' with heap := h4 } :=
  ⟨D.inv, D.gr, D.up.trans u, f, D.na, D.os, D.ag⟩
theorem Down.notFr (D : Down X pins σ H cls d a B sI s') : a ∉ frs (X.env :: X.outer) := fun m => by
  obtain ⟨oe, vs, he, _, hd⟩ := D.fl.there
  obtain ⟨_, o', e', nf⟩ := D.fl.2.2.1.mem m
  rw [he] at e'
  cases e'
  exact nf _ hd
theorem Down.suite (D : Down X pins σ H cls d a B sI s') (hf : X.env.frame = some X.env.locals) :
    ∃ oe, Zc cls d oe ∧ (∃ vs, oe.data = .fields vs) ∧ s'.heap.get? a = some oe ∧ Inv (X.suite a ((a, oe) :: (X.pn ++ pins))) [] σ H s' := by
  obtain ⟨oe, vs, he, hz, hd⟩ := D.fl.there
  refine ⟨oe, hz, ⟨vs, hd⟩, he, D.here.suite he hd D.na (fun z => D.notFr ?_) fun m => D.notFr ?_⟩
  · exact List.mem_filterMap.mpr ⟨X.env, List.mem_cons_self, by rw [hf, z]⟩
  · obtain ⟨e, h1, h2⟩ := List.mem_filterMap.mp m
    exact List.mem_filterMap.mpr ⟨e, List.mem_cons_of_mem _ h1, h2⟩
theorem handles (hs : X.stack = X.env :: X.outer) (hf : X.env.frame = some X.env.locals) {out : WX} (tk : Takes X out) {E : Ends} : ∀ {hds : List ExceptHandler} {l : List Cl}, Cls_ X hds l → ∀ {s' : Shared}, Down X pins σ H cls d a B sI s' → wCl X.K out E l cls d σ H →
    wpAny (model X.prog X.w) X.A (handleBy (.ref a) X.env hds) (SP X pins E) X.xe s' := by
  intro hds l hk
  have look : ∀ {x : Str} {np : Pos} {c : Value}, Names X x c → ∀ {s' : Shared}, Down X pins σ H cls d a B sI s' → ∀ {Q : Value → Shared → Prop} {E' : Value → Shared → Prop}, Q c s' →
      wpAny (model X.prog X.w) (X.A.mark (some (.ref a))) (eval (.Name x np) X.env) Q E' s' := fun {x np c} hc {s'} D {Q E'} q => by
    obtain ⟨oe, _, _, _, S⟩ := D.suite hf
    obtain ⟨g, db, m | ⟨m, v, nn⟩⟩ := hc
    · exact ld_glob (X := X.suite a ((a, oe) :: (X.pn ++ pins))) S g m q db
    · exact ld_blt (X := X.suite a ((a, oe) :: (X.pn ++ pins))) S g m v q nn db
  induction hk with
  | nil =>
    intro s' D w
    refine wpAny_handleBy_nil ?_
    obtain ⟨_, _, _, oe, vs, T, oT, ts', he, hz, hd, h1, _⟩ := id D.fl
    unfold PySem.passOn
    refine wpAny_bind (wpAny_field he hd h1 ?_)
    rw [if_neg (show ¬ ((Value.ref T == Value.none) = true) from by simp)]
    have fin : wpAny (model X.prog X.w) X.A (setFlight (.ref a) X.env.frame) (fun _ s4 => wpAny (model X.prog X.w) X.A (throw (.ref a) : Sem Flow) (SP X pins E) X.xe s4) X.xe s' := by
      rw [hf]
      refine HandSPX.setFlight_upZ D.fl fun h4 hh4 up4 => wpAny_throw (tk _ _ ?_)
      exact ⟨a, B, sI, pins, σ, H, cls, d, rfl, D.inv, D.gr, D.up.trans up4, .inr (.inr (by rw [hs]; exact hh4)), D.na, D.os, D.ag, w⟩
    first
      | exact wpAny_bind (wpAny_pure (wpAny_bind fin))
      | exact wpAny_bind fin
  | plain hc hsu r ih =>
    intro s' D w
    obtain ⟨b, hb, yes, no⟩ := w
    refine wpAny_handleBy_cons (codeAny_handlers_test ?_) (fun q => by cases q)
    refine look hc D ?_
    obtain ⟨oe0, hz0, _, he0, _⟩ := D.suite hf
    have ty : PySem.W.Looks (model X.prog X.w) s'.heap (typeOf (.ref a)) cls := fun A Q E s k q => wpAny_typeOf_ref (k _ _ he0) (by rw [hz0.1]; exact q)
    refine (PySem.W.exm_one (M := model X.prog X.w) D.here.kIn ty hb).here ?_
    cases b with
    | false => exact ih D (no rfl)
    | true =>
      refine codeAny_handlers_suite (HandSPX.lands_againZ D.fl fun h4 fl4 up4 => ?_)
      obtain ⟨oe, hz, hd, _, S⟩ := (D.again fl4 up4).suite hf
      refine wpAny_mono ((hsu a oe cls d (X.pn ++ pins) hz hd).run [] _ _ H _ S (yes rfl a D.na)) (fun f s6 hsp => ?_) (fun _ _ z => z.elim)
      match f, hsp with
      | .next, hsp => obtain ⟨σ6, H6, S6, q6⟩ := hsp; exact ⟨_, _, S6.unsuite D.inv.ok, q6⟩
      | .brk, hsp => obtain ⟨σ6, H6, S6, q6⟩ := hsp; exact ⟨_, _, S6.unsuite D.inv.ok, q6⟩
      | .cont, hsp => obtain ⟨σ6, H6, S6, q6⟩ := hsp; exact ⟨_, _, S6.unsuite D.inv.ok, q6⟩
      | .ret u, hsp => obtain ⟨v6, σ6, H6, S6, r6, q6⟩ := hsp; exact ⟨_, _, _, S6.unsuite D.inv.ok, r6, q6⟩
  | @as x n i c ts b₀ suite np pos' hds' l' hN hi hl hc hsu r ih =>
    intro s' D w
    obtain ⟨b, hb, yes, no⟩ := w
    refine wpAny_handleBy_cons (codeAny_handlers_test ?_) (fun q => by cases q)
    refine look hc D ?_
    obtain ⟨oe0, hz0, _, he0, _⟩ := D.suite hf
    have ty : PySem.W.Looks (model X.prog X.w) s'.heap (typeOf (.ref a)) cls := fun A Q E s k q => wpAny_typeOf_ref (k _ _ he0) (by rw [hz0.1]; exact q)
    refine (PySem.W.exm_one (M := model X.prog X.w) D.here.kIn ty hb).here ?_
    cases b with
    | false => exact ih D (no rfl)
    | true =>
      refine codeAny_handlers_suite_as (HandSPX.lands_againZ D.fl fun h4 fl4 up4 => ?_)
      obtain ⟨oe, hz, hd, _, S⟩ := (D.again fl4 up4).suite hf
      refine store_ok (X := X.suite a ((a, oe) :: (X.pn ++ pins))) (v := .ref a) S hN hi (Or.inl hl) rfl (fun s5 S5 => ?_) (.inr hl)
      refine wpAny_mono ((hsu a oe cls d (X.pn ++ pins) hz hd).run [] s5 _ H _ S5 (yes rfl a D.na)) (fun f s6 hsp => ?_) (fun _ _ z => z.elim)
      have away : ∀ {σ6 : L2.St} {H6 : Hp} {Q : Shared → Prop}, Inv (X.suite a ((a, oe) :: (X.pn ++ pins))) [] σ6 H6 s6 → (∀ s7, Inv X pins (σ6.set i none) H6 s7 → Q s7) →
          wpAny (model X.prog X.w) X.A (do bindName X.env n .none; unbindBehindTheSuite X.env n pos') (fun _ s7 => Q s7) X.xe s6 := fun S6 hq => gone_ok (S6.unsuite D.inv.ok) hN hi hl hq
      match f, hsp with
      | .next, hsp => obtain ⟨σ6, H6, S6, q6⟩ := hsp; exact away S6 fun s7 J7 => ⟨_, _, J7, q6⟩
      | .brk, hsp => obtain ⟨σ6, H6, S6, q6⟩ := hsp; exact away S6 fun s7 J7 => ⟨_, _, J7, q6⟩
      | .cont, hsp => obtain ⟨σ6, H6, S6, q6⟩ := hsp; exact away S6 fun s7 J7 => ⟨_, _, J7, q6⟩
      | .ret u, hsp => obtain ⟨v6, σ6, H6, S6, r6, q6⟩ := hsp; exact away S6 fun s7 J7 => ⟨_, _, _, J7, r6, q6⟩
/-- try: body / the clauses -/
theorem ps_try_cl {body : List Stmt} {h₀ : ExceptHandler} {hds : List ExceptHandler} {l : List Cl} {pos : Pos} {tb : WX → L2.TS} {out : WX} (hs : X.stack = X.env :: X.outer) (hf : X.env.frame = some X.env.locals) (tk : Takes X out)
    (hb : ∀ (W : WX) (pn : List (Addr × Obj)) (xe : Value → Shared → Prop), Takes (X.tr pn xe) W → PassesOwn (model X.prog X.w) X.A X.env xe → PSs (X.tr pn xe) body (tb W))
    (hh : Cls_ X (h₀ :: hds) l) : PS X (.Try body (h₀ :: hds) [] [] pos) (fun D σ H => tb (wCl X.K out D l) D σ H) := by
  refine ⟨fun pins s σ H D I h => ?_⟩
  have ok := I.ok
  have hfr : X.A.frames = some (X.env :: X.outer) := by rw [ok.frames, hs]
  refine wpAny_Try_except (wpAny_mono ((hb (wCl X.K out D l) (X.pn ++ pins) (fun e s₁ => wpAny (model X.prog X.w) X.A (noteFrame e X.env) (fun _ s₂ => wpAny (model X.prog X.w) X.A (setFlight e none)
    (fun _ s₃ => wpAny (model X.prog X.w) X.A (handleBy e X.env (h₀ :: hds)) (SP X pins D) X.xe s₃) X.xe s₂) X.xe s₁) (fun u s' xx => ?_) PassesOwn.looking).run [] s σ H D (I.toTry _) h) (fun f s1 hsp => ?_) (fun e s1 he => he))
  · obtain ⟨a, B, sI, pins', σ', H', cls, d, rfl, J', nb, up, sky, na, os, ag, w⟩ := xx
    have sky' : Sky B (X.env :: X.outer) a (Zc cls d) X.env.locals s'.heap := by rw [← hs]; exact sky
    exact Sky.land Zc.steady hfr hf sky' fun h3 fl3 up3 => handles hs hf tk hh (s' := { s' with heap := h3 }) ⟨J'.ofTry ok, nb, up.trans up3, fl3, na, os, ag⟩ w
  · match f, hsp with
    | .next, hsp => obtain ⟨σ', H', J', q⟩ := hsp; exact wpAny_execs_nil ⟨σ', H', J'.ofTry ok, q⟩
    | .brk, hsp => obtain ⟨σ', H', J', q⟩ := hsp; exact ⟨σ', H', J'.ofTry ok, q⟩
    | .cont, hsp => obtain ⟨σ', H', J', q⟩ := hsp; exact ⟨σ', H', J'.ofTry ok, q⟩
    | .ret u, hsp => obtain ⟨v, σ', H', J', r, q⟩ := hsp; exact ⟨v, σ', H', J'.ofTry ok, r, q⟩
end
end VK
/-! VExc -/
set_option maxRecDepth 100000
set_option maxHeartbeats 4000000
/-! own error classes over any built-in error: with the __init__ that keeps one value, made as values or raised; their field; isinstance of them -/
namespace VK
open PySem PySem.Spec PySem.W PySem.Calls PyProof.Rows PySem.HandSPX Builtin Builtin.ObjectAttr
def iA (f : Str) (p1 p2 : Pos) : Arguments := { posonlyargs := [], args := [{ arg := "self", annotation := none, pos := p1 }, { arg := f, annotation := none, pos := p2 }], vararg := none, kwonlyargs := [], kw_defaults := [], kwarg := none, defaults := [] }
def iB (f : Str) (q1 q2 q3 q4 : Pos) : List Stmt := [.Assign [.Attribute (.Name "self" q1) f q2] (.Name f q3) q4]
def iS (f : Str) : Scope := { kind := .function, names := [(PySem.Str.ofString "self", .local), (f, .local)], isGenerator := false, isCoroutine := false, more := [] }
/-- what computes by itself of such a parameter's name -/
structure Fld (f : Str) : Prop where
  bind : ∀ (qual : Str) (p1 p2 q1 q2 q3 q4 : Pos) (doc pm : Value) (an : Option Addr) (cdv ct a b : Value), bindArgs (fnOf "__init__" qual (iA f p1 p2) (iB f q1 q2 q3 q4) (iS f) .none .none doc pm an cdv ct) ⟨[a, b], []⟩ = pure ([("self", a), (f, b)] : List (Str × Value))
  kinds : ∀ a b : Value, (([("self", a), (f, b)] : List (Str × Value)).all fun y => (iS f).names.lookup y.1 == some .local || (iS f).names.lookup y.1 == some .cell) = true
  kf : ∀ (qual : Str) (L fI : Addr) (cdv : Value), (envOfC qual (iS f) L fI cdv).kindOf f = some .local
  ks : ∀ (qual : Str) (L fI : Addr) (cdv : Value), (envOfC qual (iS f) L fI cdv).kindOf "self" = some .local
  vf : ∀ (qual : Str) (L fI : Addr) (cdv a b : Value), bindL (envOfC qual (iS f) L fI cdv).kindOf [("self", a), (f, b)] (fun _ => none) f = some b
  vs : ∀ (qual : Str) (L fI : Addr) (cdv a b : Value), bindL (envOfC qual (iS f) L fI cdv).kindOf [("self", a), (f, b)] (fun _ => none) "self" = some a
  db : (f == ("__debug__" : Str)) = false
theorem fld_number : Fld "number" := ⟨fun _ _ _ _ _ _ _ _ _ _ _ _ _ _ => rfl, fun _ _ => rfl, fun _ _ _ _ => rfl, fun _ _ _ _ => rfl, fun _ _ _ _ _ _ => rfl, fun _ _ _ _ _ _ => rfl, by decide⟩
theorem fld_name : Fld "name" := ⟨fun _ _ _ _ _ _ _ _ _ _ _ _ _ _ => rfl, fun _ _ => rfl, fun _ _ _ _ => rfl, fun _ _ _ _ => rfl, fun _ _ _ _ _ _ => rfl, fun _ _ _ _ _ _ => rfl, by decide⟩
theorem fld_value : Fld "value" := ⟨fun _ _ _ _ _ _ _ _ _ _ _ _ _ _ => rfl, fun _ _ => rfl, fun _ _ _ _ => rfl, fun _ _ _ _ => rfl, fun _ _ _ _ _ _ => rfl, fun _ _ _ _ _ _ => rfl, by decide⟩
theorem fld_wanted : Fld "wanted" := ⟨fun _ _ _ _ _ _ _ _ _ _ _ _ _ _ => rfl, fun _ _ => rfl, fun _ _ _ _ => rfl, fun _ _ _ _ => rfl, fun _ _ _ _ _ _ => rfl, fun _ _ _ _ _ _ => rfl, by decide⟩
theorem fld_limit : Fld "limit" := ⟨fun _ _ _ _ _ _ _ _ _ _ _ _ _ _ => rfl, fun _ _ => rfl, fun _ _ _ _ => rfl, fun _ _ _ _ => rfl, fun _ _ _ _ _ _ => rfl, fun _ _ _ _ _ _ => rfl, by decide⟩
theorem fld_pledge : Fld "pledge" := ⟨fun _ _ _ _ _ _ _ _ _ _ _ _ _ _ => rfl, fun _ _ => rfl, fun _ _ _ _ => rfl, fun _ _ _ _ => rfl, fun _ _ _ _ _ _ => rfl, fun _ _ _ _ _ _ => rfl, by decide⟩
/-- what the written part says of the error class x at C, whose __init__ at fI keeps its argument as f -/
structure IniT (K : Frag) (mg : Str → Option Value) (x f qual : Str) (C fI : Addr) (newId : String) (bmB : List Value) : Prop where
  gC : mg x = some (.ref C)
  cls : excInitIn K C bmB newId = true
  ov : excOver K C bmB = true
  tk : takerIn K C f = some none
  sa : findIn K (.ref C) "__setattr__" = some (some (.builtin "object.__setattr__"))
  ga : findIn K (.ref C) "__getattribute__" = some (some (.builtin "BaseException.__getattribute__"))
  gg : findIn K (.ref C) "__getattr__" = some none
  noN : findIn K (.ref C) f = some none
  iC : findIn K (.ref C) "__init__" = some (some (.ref fI))
  tC : typeIn K (.ref fI) = some (.type "function")
  kC : keepIn K (.ref C) = true
  exC : subIn K (.ref C) (.type "BaseException") = some true
  tyC : typeIn K (.ref C) = some (.type "type")
  hdC : hasDictIn K C = true
  fn : ∃ (oc : Value) (od : Option Addr) (doc pm : Value) (an : Option Addr) (cdv ct : Value) (osl : Array (Option Value)) (p1 p2 q1 q2 q3 q4 : Pos),
    K.lookup fI = some ⟨oc, od, .func (fnOf "__init__" qual (iA f p1 p2) (iB f q1 q2 q3 q4) (iS f) .none .none doc pm an cdv ct), osl⟩ ∧ codeIn K cdv qual = true
theorem ldN {M : Model} {s : Shared} {name : Str} {scope : Scope} {L a : Addr} {cd : Value} {m : Str → Option Value} {x : Str} {pos : Pos} {v : Value} {Q : Value → Shared → Prop} {A : Around} {E : Value → Shared → Prop} (hn : s.heap.Ns L m) (hv : m x = some v) (h : Q v s)
    (hk : scope.kind = .function) (hl : (envOfC name scope L a cd).kindOf x = some .local) (hd : (x == ("__debug__" : Str)) = false) :
    wpAny M A (eval (.Name x pos) (envOfC name scope L a cd)) Q E s := wpAny_Name (wpAny_loadName_local hk hl hn hv h) hd
section
variable {prog : Program} {w : World} {A : Around} {E : Value → Shared → Prop} {R : Result → Shared → Prop} {hp : Heap} {g : Array GenState} {d : Drawn} {t : Nat} {os : OsState} {K : Frag} {bmB : List Value} {B : String}
/-- the first field of an error that has no dict yet -/
theorem set_new {name : Str} {tk : Tok} {v : Value} {x C : Addr} {fv : Array Value} (SF : StoreFacts B bmB "object.__setattr__" "object") (X : K.In hp) (hx : hp.get? x = some { cls := .ref C, data := .fields fv })
    (ho : excOver K C bmB = true) (ht : takerIn K C name = some none) (hh : hasDictIn K C = true)
    (hq : ∀ h' tk' dx, (∀ b o, b ≠ x → hp.get? b = some o → h'.get? b = some o) → hp.objs.size ≤ dx → dx ≠ x → h'.get? x = some { cls := .ref C, dict := some dx, data := .fields fv } →
      h'.Ns1 dx (fun y => if y = name then some v else none) → R (.ok (.ret .none)) ⟨h', g, d, tk', os⟩) :
    codeAny (model prog w) A (.call (.builtin "object.__setattr__") ⟨[.ref x, .str name tk, v], []⟩) R ⟨hp, g, d, t, os⟩ := by
  obtain ⟨cd, hc, hd'⟩ := any_some hh
  have hxs : x ≠ hp.objs.size := Nat.ne_of_lt (Heap.lt_size hx)
  refine osa_openX (s := ⟨hp, g, d, t, os⟩) (od := none) SF X ⟨hx, rfl, rfl, trivial⟩ ho ht fun b => ?_
  have hcls : Looks (model prog w) hp (classData C) cd := looks_clsIn X hc
  obtain ⟨nm, bs, mro, ns, qn, hd, sn, sb, ab, col, del⟩ := cd
  dsimp only at hd'
  subst hd'
  show wpAny _ _ (storeInOwnDict (.ref x) (.ref C) (.str name tk) name v b) _ _ _
  unfold storeInOwnDict ownDictForStores
  repeat (first | with_reducible refine store_in_new ?_ ?_ | with_reducible refine wpAny_loadPart_at hx ?_ | with_reducible refine hcls.at ?_ | wp_step)
  · refine ⟨{ cls := .type "dict", data := .dict #[] }, #[], _, ?_, rfl, fun e he => absurd he (by simp), fun _ => rfl⟩
    exact Eq.trans (Heap.get?_update_ne _ _ _ _ hxs.symm) (Heap.get?_push_at rfl rfl)
  · intro h5 tk5 hn5 hs
    refine hq h5 tk5 hp.objs.size (fun b o hb e => ?_) (Nat.le_refl _) hxs.symm ?_ hn5
    · have h1 := hs.2 b (Nat.ne_of_lt (Heap.lt_size e))
      rw [Heap.get?_update_ne _ _ _ _ hb] at h1
      exact h1.trans (Heap.get?_push_of_some _ e)
    · have h1 := Heap.get?_push_of_some (h := hp) { cls := .type "dict", data := .dict #[] } hx
      exact (hs.2 x hxs).trans (Heap.get?_update_self _ h1 rfl)
/-- what a made error leaves: the error at e of the class C, its dict at dx with its one field -/
structure Made (h h' : Heap) (e C dx : Addr) (f : Str) (v : Value) : Prop where
  keep : ∀ b o, h.get? b = some o → h'.get? b = some o
  new : h.objs.size ≤ e
  obj : ∃ t1 : Addr, h'.get? e = some { cls := .ref C, dict := some dx, data := .fields #[.ref t1, .none, .none, .none, .bool false, .none] }
  dbig : h.objs.size ≤ dx
  dne : dx ≠ e
  ns : h'.Ns1 dx (fun y => if y = f then some v else none)
end
/-! ### the call of an own error class, asked of what its base has, not of the base's own chain -/
/-- the chain bm has the error class B whose maker makes the errors, and neither of the two odd classes -/
structure Chain (B : String) (bm : List Value) : Prop where
  hasB : bm.contains (.type B) = true
  noAttr : bm.contains (.type "AttributeError") = false
  noName : bm.contains (.type "NameError") = false
section
variable {prog : Program} {w : World} {A : Around} {E : Value → Shared → Prop} {R : Result → Shared → Prop} {h : Heap} {g : Array GenState} {d : Drawn} {t : Nat} {os : OsState}
variable {nm q : Str} {C N : Addr} {bs bm bmB : List Value} {hdct : Bool} {sn : List Str} {sub : List Value} {ab : Bool} {col : Option Bool} {dd : Option Addr} {k0 k1 k2 k3 k5 : Option Value} {B newId initId : String}
theorem Chain.up (c : Chain B bm) : (Value.ref C :: bm).contains (.type B) = true ∧ (Value.ref C :: bm).contains (.type "AttributeError") = false ∧ (Value.ref C :: bm).contains (.type "NameError") = false := by
  refine ⟨?_, ?_, ?_⟩
  · rw [List.contains_cons, c.hasB, Bool.or_true]
  · rw [List.contains_cons, c.noAttr]
    rfl
  · rw [List.contains_cons, c.noName]
    rfl
theorem new_err (F : ExcBaseFacts B newId initId bmB) (c : Chain B bm) {rest : List Value} (hC : h.get? C = some (excClassObj nm q C N bs bm hdct sn sub ab col dd k0 k1 k2 k3 k5 newId)) (hrest : rest.length ≤ sizeLine)
    (hq : R (.ok (.ret (.ref (h.objs.size + 1)))) ⟨(h.push (kdv_tup rest)).push (excO C h.objs.size), g, d, t, os⟩) : codeAny (model prog w) A (.builtin newId ⟨.ref C :: rest, []⟩) R ⟨h, g, d, t, os⟩ := by
  obtain ⟨cB, cA, cN⟩ := c.up (C := C)
  have ends := F.ends
  refine codeAny_builtinAt F.entry ?_
  unfold Builtin.«BaseException.__new__»
  refine PySem.wpAt_bind ?_
  show PySem.wpAt _ _ _ (stack >>= _) _ _ _
  refine PySem.wpAt_bind (PySem.wpAt_stack fun p below => PySem.wpAt_of_wpAny ?_)
  wp_walk
  refine PySem.wpAt_of_wpAny ?_
  rw [F.owner]
  repeat (first
    | with_reducible refine wpAny_madeHere_exc F.canon hC ?_
    | with_reducible refine wpAny_loadPart_at hC ?_
    | (with_reducible refine wpAny_isSubtype_exc hC ?_
       first | rw [cB] | rw [cA] | rw [cN])
    | wp_step)
  show R _ _
  rw [Heap.size_push]
  exact hq
theorem check_err (F : ExcBaseFacts B newId initId bmB) (c : Chain B bm) {rest : List Value} {Q : Unit → Shared → Prop} (hC : h.get? C = some (excClassObj nm q C N bs bm hdct sn sub ab col dd k0 k1 k2 k3 k5 newId)) (hq : Q () ⟨h, g, d, t, os⟩) :
    wpAny (model prog w) A (checkBuiltinCall newId ⟨.ref C :: rest, []⟩) Q E ⟨h, g, d, t, os⟩ := by
  obtain ⟨cB, _, _⟩ := c.up (C := C)
  have star := F.noStar
  simp only [checkBuiltinCall, F.newKind, F.newSplit, F.newRow]
  repeat (first
    | refine wpAny_loadPart_at hC ?_
    | (refine wpAny_isSubtype_exc hC ?_
       rw [cB])
    | refine wpAny_staticBase_exc hC ?_
    | refine wpAny_madeBy_exc hC ?_
    | simp only [bne_self_eq_false, Bool.false_eq_true, if_false]
    | wp_step)
  exact hq
theorem type_err (F : ExcBaseFacts B newId initId bmB) (c : Chain B bm) {rest : List Value} {fI : Addr} {Q : Fin → Shared → Prop} (hC : h.get? C = some (excClassObj nm q C N bs bm hdct sn sub ab col dd k0 k1 k2 k3 k5 newId))
    (hi : Looks (model prog w) h (typeLookup (.ref C) "__init__") (some (.ref fI))) (hb : ∀ self, Looks (model prog w) h (bindSpecial (.ref fI) self) (.ref fI, [self])) (hrest : rest.length ≤ sizeLine)
    (hq : codeAny (model prog w) A (.call (.ref fI) ⟨.ref (h.objs.size + 1) :: rest, []⟩)
      (fun r s' => match r with | .ok (.ret v) => v = .none ∧ Q (.done (.ret (.ref (h.objs.size + 1)))) s' | .ok _ => False | .error e => E e s') ⟨(h.push (kdv_tup rest)).push (excO C h.objs.size), g, d, t, os⟩) :
    wpAny (model prog w) A (Builtin.«type.__call__» ⟨.ref C :: rest, []⟩) Q E ⟨h, g, d, t, os⟩ := by
  repeat (first
    | with_reducible refine wpAny_loadPart_at hC ?_
    | with_reducible refine wpAny_madeBy_exc hC ?_
    | wp_step)
  refine codeAny_call_builtin_code (Code.quiet_builtin _ F.quiet) (check_err F c hC (new_err F c hC hrest ?_))
  show wpAny _ _ _ _ _ _
  have k : ∀ b o, h.get? b = some o → ((h.push (kdv_tup rest)).push (excO C h.objs.size)).get? b = some o := fun b o e => Heap.get?_push_of_some _ (Heap.get?_push_of_some _ e)
  have atE : ((h.push (kdv_tup rest)).push (excO C h.objs.size)).get? (h.objs.size + 1) = some (excO C h.objs.size) := by heap_get
  have own : (Value.ref C :: bm).contains (.ref C) = true := by simp
  unfold isInstance
  repeat (first
    | with_reducible refine wpAny_loadPart_at atE ?_
    | (with_reducible refine wpAny_isSubtype_exc (k _ _ hC) ?_
       rw [own])
    | wp_step)
  show wpAny _ _ (typeLookup (.ref C) _) _ _ _
  refine (hi.keeps k).at (wpAny_holding (wpAny_bind (((hb (.ref (h.objs.size + 1))).keeps k).at ?_)))
  refine wpAny_bind (wpAny_call (codeAny_mono hq fun r s' z => ?_))
  match r, z with
  | .error e, z => exact z
  | .ok (.ret v), z =>
    obtain ⟨rfl, z⟩ := z
    first
      | exact wpAny_pure (wpAny_pure z)
      | (wp_walk; exact z)
theorem call_err (F : ExcBaseFacts B newId initId bmB) (c : Chain B bm) {rest : List Value} {fI : Addr} (hC : h.get? C = some (excClassObj nm q C N bs bm hdct sn sub ab col dd k0 k1 k2 k3 k5 newId))
    (hi : Looks (model prog w) h (typeLookup (.ref C) "__init__") (some (.ref fI))) (hb : ∀ self, Looks (model prog w) h (bindSpecial (.ref fI) self) (.ref fI, [self])) (hrest : rest.length ≤ sizeLine)
    (hq : codeAny (model prog w) (A.under (.builtin "type.__call__" ⟨.ref C :: rest, []⟩)) (.call (.ref fI) ⟨.ref (h.objs.size + 1) :: rest, []⟩) (InitBack (h.objs.size + 1) R) ⟨(h.push (kdv_tup rest)).push (excO C h.objs.size), g, d, t, os⟩) :
    codeAny (model prog w) A (.call (.ref C) ⟨rest, []⟩) R ⟨h, g, d, t, os⟩ := by
  have l1 := tc_lookup
  have l2 := tc_bind (.ref C)
  have ty : (⟨h, g, d, t, os⟩ : Shared).TypeIs (.ref C) "type" := ⟨_, hC, rfl⟩
  refine codeAny_of_tree ?_
  show wpAny _ _ (callAny (.ref C) _) _ _ _
  repeat (any_goals (first
    | assumption
    | with_reducible refine wpAny_loadPart_at hC ?_
    | wp_step))
  refine ⟨rfl, ?_⟩
  refine codeAny_call_builtin_at (Code.quiet_builtin _ (by decide +kernel)) entry_typeCall (wpAny_check_type_call_sub hC (type_err F c hC hi hb hrest (codeAny_mono hq fun r s' z => ?_)))
  match r, z with
  | .error e, z => exact z
  | .ok (.ret v), z => exact z
end
section
variable {prog : Program} {w : World} {A : Around} {E : Value → Shared → Prop} {R : Result → Shared → Prop} {s : Shared} {K : Frag} {mg : Str → Option Value} {C fI : Addr} {x f qual : Str} {B B9 newId initId : String} {bmB : List Value}
theorem ini_runs (T : IniT K mg x f qual C fI newId bmB) (SF : StoreFacts B9 bmB "object.__setattr__" "object") (FF : Fld f) {e t0 : Addr} {v : Value} (X : K.In s.heap) (hlim : s.heap.NoLimit) (hx : s.heap.get? e = some (excO C t0))
    (hroom : A.depth < recursionLimit)
    (hq : ∀ h' tk dx, (∀ b o, b ≠ e → s.heap.get? b = some o → h'.get? b = some o) → h'.get? e = some { cls := .ref C, dict := some dx, data := .fields #[.ref t0, .none, .none, .none, .bool false, .none] } → s.heap.objs.size ≤ dx → dx ≠ e →
      h'.Ns1 dx (fun y => if y = f then some v else none) → R (.ok (.ret .none)) { s with heap := h', toks := tk }) :
    codeAny (model prog w) A (.call (.ref fI) ⟨[.ref e, v], []⟩) R s := by
  obtain ⟨oc, od, doc, pm, an, cdv, ct, osl, p1, p2, q1, q2, q3, q4, ho, hcd⟩ := T.fn
  refine Att.call_fn (binds := [("self", .ref e), (f, v)]) X hlim ho hcd hroom (BindsTo.of_eq (FF.bind _ _ _ _ _ _ _ _ _ _ _ _ _ _)) (FF.kinds _ _) (fun s₁ IC => ?_) rfl rfl rfl
  obtain ⟨h₁, tk₁, rfl⟩ := IC.toInCall.same
  have k := IC.toInCall.keep
  have hn := IC.toInCall.ns
  have z : s.heap.objs.size < h₁.objs.size := hn.lt
  have X₁ : K.In h₁ := X.keeps k
  have hx₁ := k _ _ hx
  show wpAny _ _ (execs (iB f q1 q2 q3 q4) _) _ _ _
  refine wpAny_execs_cons (plainObj_wpAny_Assign_Attribute ?_)
  refine ldN (v := v) hn (FF.vf _ _ _ _ _ _) (ldN (v := .ref e) hn (FF.vs _ _ _ _ _ _) ?_ rfl (FF.ks _ _ _ _) (by decide)) rfl (FF.kf _ _ _ _) FF.db
  refine set_plain X₁ (ox := excO C t0) (od := none) ⟨hx₁, rfl, rfl, trivial⟩ T.sa ?_
  refine set_new SF X₁ hx₁ T.ov T.tk T.hdC fun h₃ tk₃ dx k₃ dn dne hx₃ hn₃ => ?_
  show wpAny _ _ (execs _ _) _ _ _
  exact wpAny_execs_nil (hq h₃ tk₃ dx (fun b o hb q => k₃ b o hb (k b o q)) hx₃ (Nat.le_of_lt (Nat.lt_of_lt_of_le z dn)) dne hn₃)
theorem ini_made {bmF : List Value} (T : IniT K mg x f qual C fI newId bmB) (FB : ExcBaseFacts B newId initId bmF) (ch : Chain B bmB) (SF : StoreFacts B9 bmB "object.__setattr__" "object") (FF : Fld f) {v : Value} (X : K.In s.heap) (hlim : s.heap.NoLimit) (hroom : A.depth + 1 < recursionLimit)
    (hq : ∀ h' tk e dx, Made s.heap h' e C dx f v → R (.ok (.ret (.ref e))) { s with heap := h', toks := tk }) :
    codeAny (model prog w) A (.call (.ref C) ⟨[v], []⟩) R s := by
  obtain ⟨nm, N, qn, bs, bm, hdct, sn, sub, ab, col, dd, k0, k1, k2, k3, k5, hC, hT⟩ := excInit_of X T.cls
  obtain ⟨hp, g, dr, tk, os⟩ := s
  have k : ∀ b o, hp.get? b = some o → ((hp.push (kdv_tup [v])).push (excO C hp.objs.size)).get? b = some o := fun b o e => Heap.get?_push_of_some _ (Heap.get?_push_of_some _ e)
  have hget : ((hp.push (kdv_tup [v])).push (excO C hp.objs.size)).get? (hp.objs.size + 1) = some (excO C hp.objs.size) := by heap_get
  refine call_err FB ⟨(hT _).trans ch.hasB, (hT _).trans ch.noAttr, (hT _).trans ch.noName⟩ hC (looks_findIn X T.iC) (fun self => bind_fn X self T.tC) (by show 1 ≤ sizeLine; decide) ?_
  refine ini_runs (s := ⟨(hp.push (kdv_tup [v])).push (excO C hp.objs.size), g, dr, tk, os⟩) T SF FF (X.keeps k) (hlim.keeps k) hget hroom fun h' tk' dx k' hx dn dne hns => ?_
  have big : hp.objs.size + 1 + 1 ≤ dx := by
    first
      | (simpa only [Heap.size_push] using dn)
      | exact dn
  exact ⟨rfl, hq h' tk' (hp.objs.size + 1) dx ⟨fun b o e => k' b o (Nat.ne_of_lt (Nat.lt_succ_of_lt (Heap.lt_size e))) (k b o e), Nat.le_succ _, ⟨_, hx⟩, by show hp.objs.size ≤ dx; omega, dne, hns⟩⟩
end
/-! ### isinstance of errors, with a dict of their own or without -/
section
variable {prog : Program} {w : World} {A : Around} {E : Value → Shared → Prop} {s : Shared} {K : Frag} {x D : Addr} {ox : Obj}
theorem class_err {od : Option Obj} {Q : Option Value → Shared → Prop} (C : L2.ExcC K D) (X : K.In s.heap) (I : InstAt s.heap x ox D od) (h : Q (some (.ref D)) { s with toks := s.toks + 1 }) : wpAny (model prog w) A (getAttr? (.ref x) "__class__") Q E s := by
  obtain ⟨cd, hc, _⟩ := any_some C.hd
  have hf : findObj K D od "__class__" = some (.bind (.builtin "getset_descriptor.__get__") (.builtin "object.__class__")) := by
    unfold findObj
    rw [hc, Option.bind_some, C.ha, Option.bind_some]
    simp [C.hn, C.ht]
  obtain ⟨hp, g, d, t, os⟩ := s
  have ty := I.type (M := model prog w)
  have no : (Value.builtin "BaseException.__getattribute__" == Value.builtin "object.__getattribute__") = false := by decide +kernel
  unfold getAttr? getAttrBy? getAttrBy
  refine wpAny_bind (wpAny_mkText (wpAny_bind (wpAny_attempt (wpAny_holding ?_))))
  refine wpAny_bind (ty.at (wpAny_bind ((looks_findIn X C.hg).at ?_)))
  show wpAny _ _ (if (onTheHeap (Value.ref D) && Value.builtin "BaseException.__getattribute__" == Value.builtin "object.__getattribute__") = true then _ else _) _ _ _
  rw [show (onTheHeap (Value.ref D) && Value.builtin "BaseException.__getattribute__" == Value.builtin "object.__getattribute__") = false by rw [no]; rfl, if_neg Bool.false_ne_true]
  unfold getAttrByItsOwn hookBefore
  refine wpAny_bind ?_
  rw [if_pos (show onTheHeap (Value.ref D) = true from rfl)]
  refine (looks_findIn X C.hk).at (wpAny_bind (wpAny_attempt (wpAny_holding ?_)))
  unfold callGetattribute
  rw [if_neg (show ¬ ((false && onTheHeap (Value.builtin "BaseException.__getattribute__")) = true) from Bool.false_ne_true)]
  unfold boundAndCalled
  rw [PySem.F.excAttr_ValueError.ga.bind (.ref x)]
  refine wpAny_bind (wpAny_pure ?_)
  show wpAny _ _ (call (.builtin "BaseException.__getattribute__") [.ref x, .str "__class__" t]) _ _ _
  refine wpAny_call (codeAny_call_builtin PySem.F.excAttr_ValueError.ga.plain PySem.F.entry_bexc_ga ?_)
  refine @check_slot (model prog w) _ _ ⟨hp, g, d, t + 1, os⟩ "BaseException.__getattribute__" "BaseException" "__getattribute__" (.ref x) [.str "__class__" t] [] _ (by decide +kernel) (by decide +kernel) (ty.andThen (looks_subIn X C.hs)) (PySem.F.args_bexc_ga _ _) ?_
  unfold Builtin.«object.__getattribute__»
  refine wpAny_bind (wpAny_of_eq (a := ((Value.ref x : Value), [Value.str "__class__" t])) (by first | rfl | (simp only [slotArgs]; rfl)) ?_)
  refine wpAny_bind (wpAny_pure (wpAny_bind (ty.at (wpAny_bind ((looks_find X I hf).at ?_)))))
  show wpAny _ _ (holding [Value.builtin "object.__class__"] (call (.builtin "getset_descriptor.__get__") [.builtin "object.__class__", .ref x, .ref D]) >>= ret) _ _ _
  refine wpAny_bind (wpAny_holding (wpAny_call (class_get (s := ⟨hp, g, d, t + 1, os⟩) (ox := ox) (od := od) X I C.hm (wpAny_pure ?_))))
  show wpAny _ _ (handedOut (.ref D)) _ _ _
  rw [handedOut_of (v := .ref D) rfl]
  first
    | exact wpAny_pure (wpAny_pure h)
    | exact wpAny_pure h
theorem kit_err {od : Option Obj} (C : L2.ExcC K D) : KitX K (.ref x) (.ref D) (fun h => ∃ od, InstAt h x ox D od) := by
  obtain ⟨cd, hc, _⟩ := any_some C.hd
  obtain ⟨c', d', cd', sl', ho⟩ : ∃ c' d' cd' sl', K.lookup D = some ⟨c', d', .cls cd', sl'⟩ := by
    unfold clsIn at hc
    split at hc
    · rename_i c' d' cd' sl' ho
      exact ⟨c', d', cd', sl', ho⟩
    · cases hc
  exact {
    ty := fun _ _ _ ⟨_, I⟩ => I.type
    it := fun _ _ X _ A' Q' E' s' k q => by
      unfold isType loadHead
      exact wpAny_bind (wpAny_loadPart (k _ _ (X _ _ ho)) (wpAny_pure q))
    ne := fun h tp dd its n sl X htp => by
      refine Bool.eq_false_iff.mpr fun q => ?_
      have e : D = tp := Value.ref.inj (beq_iff_eq.mp q)
      subst e
      have z := (X _ _ ho).symm.trans htp
      cases z
    ca := fun X ⟨_, I⟩ k => class_err C X I k }
end
end VK
/-! VErr -/
set_option maxRecDepth 100000
set_option maxHeartbeats 4000000
/-! errors as values in the hand layer: made, asked for their class and their field, raised; a text times a truth value -/
namespace VK
open PySem PySem.Spec PyProof.Rows L2
section
variable {X : Cx}
theorem op_times : OpR X (binaryOp .Mult) (fun x y H Q => ∃ (z : Str) (k : Bool), x = .str z ∧ y = .int (if k = true then 1 else 0) ∧ Q (.str (if k = true then z else Str.empty)) H) := by
  intro pins s σ H x y v u Q I rx ry h
  obtain ⟨z, k, rfl, rfl, q⟩ := h
  obtain ⟨t, rfl⟩ := rx
  obtain ⟨t', rfl⟩ := ry
  cases k with
  | true => exact PySem.SB.mul (n := 1) ⟨by decide, fun _ h => by simp at h, fun _ h => by simp at h⟩ fun t' k => ⟨.str z, H, I.tok _, ⟨t', rfl⟩, q⟩
  | false => exact PySem.SB.mul (n := 0) ⟨by decide, fun h => absurd (by decide) h, fun h => absurd (by decide) h⟩ fun t' k => ⟨.str Str.empty, H, I.tok _, ⟨t', rfl⟩, q⟩
end
/-- at a: an error of the class at C whose own dict stands at d -/
def ErrD (C d a : Addr) : HO := .ext fun h => ∃ (oe : Obj) (vs : Array Value), h.get? a = some oe ∧ Zc (.ref C) (some d) oe ∧ oe.data = .fields vs
theorem errD_ok {P : Program} {w : World} {H : Hp} {h : Heap} {a C d : Addr} {oe : Obj} {vs : Array Value} (e : h.get? a = some oe) (z : Zc (.ref C) (some d) oe) (k : oe.data = .fields vs) : ObjOk P w H h a (ErrD C d a) :=
  ⟨⟨oe, vs, e, z, k⟩, ⟨oe, e⟩, fun _ _ ⟨o, v, q, r⟩ k => ⟨o, v, k o q, r⟩⟩
/-- an error of the class at C stands at a, with the one field f or with none -/
inductive IsErr (H : Hp) (a C : Addr) : Prop
  | bare (h : H a = some (ExO (.ref C) a)) : IsErr H a C
  | with_ {d : Addr} {f : Str} {v : V} (h : H a = some (ErrD C d a)) (hd : H d = some (.xd [(f, v)])) : IsErr H a C
theorem relO_one {f : Str} {v : V} {u : Value} (r : RelV v u) (y : Str) : RelO (List.lookup y [(f, v)]) (if y = f then some u else none) := by
  by_cases h : y = f
  · rw [if_pos h, h, show List.lookup f [(f, v)] = some v by simp [List.lookup]]
    exact r
  · rw [if_neg h, show List.lookup y [(f, v)] = none by simp [List.lookup, show (y == f) = false by simpa using h]]
    trivial
section
variable {X : Cx} {C fI : Addr} {x f qual : Str} {B B9 newId initId : String} {bmB bmF : List Value}
/-- what a call of such a class leaves, the error itself left out of the tracked heap -/
theorem made_inv {pins : List (Addr × Obj)} {σ : L2.St} {H1 : Hp} {hp h' : Heap} {g : Array GenState} {dr : Drawn} {tk tk' : Nat} {os : OsState} {e dx : Addr} {v : V} {u : Value} (I1 : Inv X pins σ H1 ⟨hp, g, dr, tk, os⟩) (M : Made hp h' e C dx f u) (rv : RelV v u) :
    H1 dx = none ∧ H1 e = none ∧ ∃ G' : Heap, (∀ b, b ≠ e → G'.get? b = h'.get? b) ∧ G'.get? e = none ∧ Inv X pins σ (upd H1 dx (.xd [(f, v)])) ⟨G', g, dr, tk', os⟩ := by
  obtain ⟨G', g1, g2⟩ := restrict h' fun b => decide (b ≠ e)
  have gk : ∀ b, b ≠ e → G'.get? b = h'.get? b := fun b hb => g1 b (decide_eq_true hb)
  have old : ∀ b o, hp.get? b = some o → G'.get? b = some o := fun b o q => (gk b (Nat.ne_of_lt (Nat.lt_of_lt_of_le (Heap.lt_size q) M.new))).trans (M.keep b o q)
  refine ⟨I1.hok.fresh M.dbig, I1.hok.fresh M.new, G', gk, g2 e (by simp), I1.laid (t' := tk') old M.dbig ?_⟩
  exact ⟨_, M.ns.at (fun o q => (gk dx M.dne).trans q), fun y => relO_one rv y⟩
/-- X(e) that is raised -/
theorem pmk_ini {a : Expr} {ta : TA} {p pos : Pos} {k : Nat} (T : IniT X.K X.mg x f qual C fI newId bmB) (FB : ExcBaseFacts B newId initId bmF) (ch : Chain B bmB) (SF : StoreFacts B9 bmB "object.__setattr__" "object") (FF : Fld f) (hr : Room k X.A) (ha : PA X [a] ta) (hg : Gl X x)
    (hdb : (x == ("__debug__" : Str)) = false := by decide) (he : starEach (a :: []) X.env = (false, eval a X.env) :: starEach [] X.env := by rfl) (hpl : (backTo pos (starEach [] X.env)).any (·.1) = false := by rfl) :
    PMk X (.Call (.Name x p) [a] [] pos) (fun σ H Q => ta σ H fun vs H1 => ∃ v, vs = [v] ∧ ∀ d, H1 d = none → Q (.ref C) (some d) (upd H1 d (.xd [(f, v)]))) := by
  intro pins s σ H Q I h
  refine wpAny_Call_Name_kw (ld_glob I hg T.gC ?_ hdb)
  refine PySem.W.callWith_K (h₀ := X.base) I.ok.mod.kin T.kC (thn (ha.run pos pins s σ H _ I h) fun us s1 hh => ?_) he hpl
  obtain ⟨vs, H1, I1, r1, v, rfl, q1⟩ := hh
  obtain ⟨u, rfl, rv⟩ := vals1 r1
  refine ⟨I1.kIn, ?_⟩
  obtain ⟨hp, g, dr, tk, os⟩ := s1
  refine wpAny_call (ini_made T FB ch SF FF I1.kIn I1.nolimit (by have := hr.dp; omega) fun h' tk' e d M => ?_)
  obtain ⟨nd, ne, G', gk, ge, J⟩ := made_inv (tk' := tk') I1 M rv
  obtain ⟨t1, hoe⟩ := M.obj
  refine ⟨e, _, _, ⟨G', g, dr, tk', os⟩, _, .ref C, some d, rfl, J, fun b o q => ?_, ge, hoe, ⟨rfl, rfl⟩, rfl, rfl, ?_, rfl, I1.bare, raises_own T.exC T.tyC, q1 d nd⟩
  · by_cases hb : b = e
    · have q' : G'.get? b = some o := q
      rw [hb, ge] at q'
      cases q'
    · exact (gk b hb).symm.trans q
  · rw [upd_ne M.dne.symm]
    exact ne
/-- X(e) as a value -/
theorem pe_ini {a : Expr} {ta : TA} {p pos : Pos} {k : Nat} (T : IniT X.K X.mg x f qual C fI newId bmB) (FB : ExcBaseFacts B newId initId bmF) (ch : Chain B bmB) (SF : StoreFacts B9 bmB "object.__setattr__" "object") (FF : Fld f) (hr : Room k X.A) (ha : PA X [a] ta) (hg : Gl X x)
    (hdb : (x == ("__debug__" : Str)) = false := by decide) (he : starEach (a :: []) X.env = (false, eval a X.env) :: starEach [] X.env := by rfl) (hpl : (backTo pos (starEach [] X.env)).any (·.1) = false := by rfl) :
    PE X (.Call (.Name x p) [a] [] pos) (fun σ H Q => ta σ H fun vs H1 => ∃ v, vs = [v] ∧ ∀ d e, H1 d = none → H1 e = none → d ≠ e → Q (.ref e) (upd (upd H1 d (.xd [(f, v)])) e (ErrD C d e))) := by
  refine ⟨fun pins s σ H Q I h => ?_⟩
  refine wpAny_Call_Name_kw (ld_glob I hg T.gC ?_ hdb)
  refine PySem.W.callWith_K (h₀ := X.base) I.ok.mod.kin T.kC (thn (ha.run pos pins s σ H _ I h) fun us s1 hh => ?_) he hpl
  obtain ⟨vs, H1, I1, r1, v, rfl, q1⟩ := hh
  obtain ⟨u, rfl, rv⟩ := vals1 r1
  refine ⟨I1.kIn, ?_⟩
  obtain ⟨hp, g, dr, tk, os⟩ := s1
  refine wpAny_call (ini_made T FB ch SF FF I1.kIn I1.nolimit (by have := hr.dp; omega) fun h' tk' e d M => ?_)
  obtain ⟨nd, ne, G', gk, ge, J⟩ := made_inv (tk' := tk') I1 M rv
  obtain ⟨t1, hoe⟩ := M.obj
  have k2 : ∀ b o, G'.get? b = some o → h'.get? b = some o := fun b o q => by
    by_cases hb : b = e
    · rw [hb, ge] at q
      cases q
    · exact (gk b hb).symm.trans q
  have ne2 : (upd H1 d (.xd [(f, v)])) e = none := by
    rw [upd_ne M.dne.symm]
    exact ne
  exact ⟨.ref e, _, J.laidN (t' := tk') k2 ge ne2 (errD_ok hoe ⟨rfl, rfl⟩ rfl), rfl, q1 d e nd ne M.dne⟩
/-- isinstance(e, c), e an error that is tracked -/
def rIsErr (K : PySem.W.Frag) : List V → Hp → VK → Prop := fun xs H Q => ∃ (a D : Addr) (c : V) (cv : Value) (b : Bool), xs = [.ref a, c] ∧ ClsV c cv ∧ IsErr H a D ∧ ExcC K D ∧ PySem.W.kitOne K (.ref D) cv = some b ∧ Q (.bl b) H
def DictAt (h : Heap) : Option Addr → Option Obj → Prop
  | some dx, some o => h.get? dx = some o
  | none, none => True
  | _, _ => False
theorem inst_zc {h : Heap} {a D : Addr} {d : Option Addr} {oe : Obj} {od : Option Obj} (e : h.get? a = some oe) (z : Zc (.ref D) d oe) (hv : ∃ vs, oe.data = .fields vs) (hd : DictAt h d od) : PySem.W.InstAt h a oe D od := by
  obtain ⟨vs, hv⟩ := hv
  obtain ⟨z1, z2⟩ := z
  refine ⟨e, z1, by unfold PySem.W.notCls; rw [hv], ?_⟩
  rw [z2]
  cases d <;> cases od <;> exact hd
theorem call_isErr : CallR X (.builtin "isinstance") (rIsErr X.K) := by
  intro pins s σ H xs us Q I r h
  obtain ⟨a, D, c, cv, b, rfl, hc, he, C, hk, q⟩ := h
  obtain ⟨u1, u2, rfl, r1, r2⟩ := vals2 r
  have e2 := hc.eq r2
  subst e2
  cases (show u1 = Value.ref a from r1)
  have J : ∃ ox, ∃ od, PySem.W.InstAt s.heap a ox D od := by
    cases he with
    | bare h =>
      obtain ⟨⟨oe, vs, e, z, d, _⟩, _⟩ := I.hok a _ h
      exact ⟨oe, none, inst_zc e z ⟨vs, d⟩ trivial⟩
    | @with_ d f v h hd =>
      obtain ⟨⟨oe, vs, e, z, k⟩, _⟩ := I.hok a _ h
      obtain ⟨mA, hn, _⟩ := (show ObjOk X.prog X.w H s.heap d (.xd [(f, v)]) from I.hok d _ hd)
      obtain ⟨od, ho, _⟩ := lookIn_ns hn
      exact ⟨oe, some od, inst_zc e z ⟨vs, k⟩ ho⟩
  obtain ⟨ox, od, J⟩ := J
  exact PySem.W.kia_one (kit_err (od := od) (ox := ox) C) I.kIn ⟨od, J⟩ hk (fun z => nomatch z) fun tk => ⟨.bl b, H, I.kept (t' := tk) fun _ _ z => z, rfl, q⟩
/-- e.f, e an error that is tracked -/
theorem pe_errF {e : Expr} {te : TE} {pos : Pos} (T : IniT X.K X.mg x f qual C fI newId bmB) (he : PE X e te) (hb : attributeBase e f X.env (eval e X.env) = eval e X.env := by rfl) :
    PE X (.Attribute e f pos) (fun σ H Q => te σ H fun y H1 => ∃ (a d : Addr) (v : V), y = .ref a ∧ H1 a = some (ErrD C d a) ∧ H1 d = some (.xd [(f, v)]) ∧ Q v H1) := by
  refine ⟨fun pins s σ H Q I h => ?_⟩
  refine attr_of hb (thn (he.run pins s σ H _ I h) fun u s1 hh => ?_)
  obtain ⟨y, H1, I1, ry, a, d, v, rfl, ha, hd, q⟩ := hh
  cases (show u = Value.ref a from ry)
  obtain ⟨⟨oe, vs, e1, z, k⟩, _⟩ := I1.hok a _ ha
  obtain ⟨mA, hn, hr⟩ := (show ObjOk X.prog X.w H1 s1.heap d (.xd [(f, v)]) from I1.hok d _ hd)
  obtain ⟨od, ho, hl⟩ := lookIn_ns hn
  obtain ⟨w', hw, rw'⟩ := RelO.some_of (v := v) (o := mA f) (by
    have := hr f
    rw [show List.lookup f [(f, v)] = some v by simp [List.lookup]] at this
    exact this)
  exact HandSPX.exc_get I1.kIn (inst_zc (od := some od) e1 z ⟨vs, k⟩ ho) T.ga T.gg T.exC (PySem.W.findObj_own T.hdC T.noN rfl (by rw [hl, hw])) (handed_of rw') ⟨v, H1, I1.tok _, rw', q⟩
end
end VK
/-! K00B -/
set_option maxRecDepth 100000
set_option maxHeartbeats 4000000
/-! words: whole numbers, integers, counts, names -/
namespace VW
open PySem L2 VK
/-- the module's constants and the built-in names -/
structure Wd (mg : Str → Option Value) : Prop where
  n_bool : mg "bool" = none
  n_str : mg "str" = none
  n_tuple : mg "tuple" = none
  n_dict : mg "dict" = none
  n_set : mg "set" = none
  n_all : mg "all" = none
  n_list : mg "list" = none
  n_sorted : mg "sorted" = none
  ML : ∃ t, mg "MAX_LETTERS" = some (.int 8 t)
  MF : ∃ t, mg "MAX_FIGURES" = some (.int 60 t)
  LL : ∃ t, mg "_LEAST_TOO_LONG" = some (.int 1000000000000000000000000000000000000000000000000000000000000 t)
  LE : ∃ t, mg "_LETTERS" = some (.str "abcdefghijklmnopqrstuvwxyz" t)
  NA : ∃ t, mg "_NAMES" = some (.int 702 t)
  GC : mg "gcd" = some (.builtin "math.gcd")
abbrev kinds : List String := ["NoneType", "bool", "int", "str", "list", "tuple", "dict"]
/-- a value of one of the kinds -/
def Kd (K : PySem.W.Frag) (H : Hp) (v : V) (n : String) : Prop := TyX K H v (.type n) ∧ n ∈ kinds
def wholeV : V → Bool
  | .int _ => true
  | _ => false
def strV : V → Bool
  | .str _ => true
  | _ => false
def intV : V → Bool
  | .int i => decide (-1000000000000000000000000000000000000000000000000000000000000 < i) && decide (i < 1000000000000000000000000000000000000000000000000000000000000)
  | _ => false
def countV : V → Bool
  | .int i => intV (.int i) && decide (0 ≤ i)
  | _ => false
def nameS (z : Str) : Bool := decide (1 ≤ z.length) && decide (z.length ≤ 8) && z.cps.toList.all fun c => decide (c ∈ ("abcdefghijklmnopqrstuvwxyz" : Str).cps.toList)
def nameV : V → Bool
  | .str z => nameS z
  | _ => false
section
variable {K : PySem.W.Frag} {H : Hp} {v : V} {n : String}
theorem Kd.isC (k : Kd K H v n) (c : String) (hc : c ∈ ["int", "bool", "str", "tuple", "dict"]) : PySem.W.kitOne K (.type n) (.type c) = some (n == c || (n == "bool" && c == "int")) := by
  obtain ⟨_, m⟩ := k
  simp only [kinds, List.mem_cons, List.not_mem_nil, or_false] at m hc
  rcases m with rfl | rfl | rfl | rfl | rfl | rfl | rfl <;> rcases hc with rfl | rfl | rfl | rfl | rfl <;> rfl
theorem Kd.whole (k : Kd K H v n) : wholeV v = (n == "int") := by
  obtain ⟨t, m⟩ := k
  generalize ht : Value.type n = tt at t
  cases t with
  | base b => cases b <;> first | (cases ht; rfl) | (exfalso; cases ht)
  | _ => cases ht; rfl
theorem Kd.isS (k : Kd K H v n) (c : String) (hc : c ∈ ["bool", "str", "tuple", "dict"]) : PySem.W.kitOne K (.type n) (.type c) = some (n == c) := by
  obtain ⟨_, m⟩ := k
  simp only [kinds, List.mem_cons, List.not_mem_nil, or_false] at m hc
  rcases m with rfl | rfl | rfl | rfl | rfl | rfl | rfl <;> rcases hc with rfl | rfl | rfl | rfl <;> rfl
theorem Kd.strs (k : Kd K H v n) : strV v = (n == "str") := by
  obtain ⟨t, m⟩ := k
  generalize ht : Value.type n = tt at t
  cases t with
  | base b => cases b <;> first | (cases ht; rfl) | (exfalso; cases ht)
  | _ => cases ht; rfl
theorem Kd.isStr (k : Kd K H v n) : PySem.W.kitOne K (.type n) (.type "str") = some (strV v) := by
  rw [k.strs]
  exact k.isS "str" (by decide)
end
end VW
/-! K00C -/
set_option maxRecDepth 100000
set_option maxHeartbeats 4000000
namespace VW
open PySem L2 VK
abbrev swhole : Stmt := topS 11
theorem scwhole : FnScope ["value"] ["value"] (defScope swhole) := ⟨rfl, rfl, rfl, by decide +kernel, rfl, by decide +kernel, by decide +kernel⟩
abbrev sinteger : Stmt := topS 12
theorem scinteger : FnScope ["value"] ["value"] (defScope sinteger) := ⟨rfl, rfl, rfl, by decide +kernel, rfl, by decide +kernel, by decide +kernel⟩
abbrev scount : Stmt := topS 13
theorem sccount : FnScope ["value"] ["value"] (defScope scount) := ⟨rfl, rfl, rfl, by decide +kernel, rfl, by decide +kernel, by decide +kernel⟩
abbrev sname : Stmt := topS 14
theorem scname : FnScope ["value", "letter"] ["value"] (defScope sname) := ⟨rfl, rfl, rfl, by decide +kernel, rfl, by decide +kernel, by decide +kernel⟩
def letB (c : Nat) : Bool := decide (c ∈ ("abcdefghijklmnopqrstuvwxyz" : Str).cps.toList)
theorem nameS_long {z : Str} (h : 8 < z.length) : nameS z = false := by
  unfold nameS
  rw [decide_eq_false (show ¬ z.length ≤ 8 by omega), Bool.and_false, Bool.false_and]
theorem nameS_short {z : Str} (h : z.length < 1) : nameS z = false := by
  unfold nameS
  rw [decide_eq_false (show ¬ 1 ≤ z.length by omega), Bool.false_and, Bool.false_and]
theorem nameS_all {z : Str} (h1 : 1 ≤ z.length) (h8 : z.length ≤ 8) : nameS z = ((z.cps.toList.map letB).all id) := by
  unfold nameS
  rw [decide_eq_true h1, decide_eq_true h8, Bool.true_and, Bool.true_and, List.all_map]
  rfl
theorem sm {H : Hp} {p : Addr} {o : HO} (n : H p = none) : Same H (upd H p o) := fun b u e => by
  rw [upd_ne (ne_of_none e n)]
  exact e
/-- a test of one value, its answer told by the value -/
def spTest (K : PySem.W.Frag) (f : V → Bool) : Sp := fun vs H Q _ => ∃ v n, vs = [v] ∧ Kd K H v n ∧ Q (.bl (f v)) H
theorem spTest_len {K : PySem.W.Frag} {f : V → Bool} {vs : List V} {H : Hp} {Q : VK} {E : XK} (h : spTest K f vs H Q E) : vs.length = 1 := by
  obtain ⟨v, n, rfl, _⟩ := h
  rfl
section
variable {P : Program} {w : World} {K : PySem.W.Frag} {mg : Str → Option Value} {base : Heap}
theorem ok_whole {f : Addr} {fd : FuncData} (F : Fun K "is_whole" "is_whole" swhole f fd) (B : Blt mg) (T : Wd mg) : FnOk P w K mg base CX0 1 f fd ["value"] (spTest K wholeV) := by
  refine F.ok scwhole (fun vs H Q E h => spTest_len h) (fun cdv A outer s H vs Q E hr h => ?_)
  obtain ⟨v, n, rfl, k, q⟩ := h
  refine ⟨_, (pss_one (ps_ret (pe_and (pe_callB call_isi (by rfl) B.n_isinstance (by decide +kernel) (pa_cons (pv 0) (pa_cons (pe_bltn (v := .ty "int") (by rfl) B.n_int (by decide +kernel) rfl) pa_nil))) (pe_one (pe_not (pe_callB call_isi (by rfl) B.n_isinstance (by decide +kernel) (pa_cons (pv 0) (pa_cons (pe_bltn (v := .ty "bool") (by rfl) T.n_bool (by decide +kernel) rfl) pa_nil)))))))), ?_⟩
  refine ⟨_, rfl, _, _, _, _, _, rfl, .ty _, k.1, k.isC "int" (by decide), _, rfl, ?_⟩
  have e := k.whole
  have q2 := k.isC "bool" (by decide)
  have ty := k.1
  rw [e] at q
  obtain ⟨_, m⟩ := k
  simp only [kinds, List.mem_cons, List.not_mem_nil, or_false] at m
  rcases m with rfl | rfl | rfl | rfl | rfl | rfl | rfl <;> first | exact ⟨_, rfl, _, _, _, _, _, rfl, .ty _, ty, q2, _, rfl, q⟩ | exact q
theorem ok_integer {f fw : Addr} {fd fdw : FuncData} (F : Fun K "is_integer" "is_integer" sinteger f fd) (FW : Fun K "is_whole" "is_whole" swhole fw fdw) (GW : FnOk P w K mg base CX0 1 fw fdw ["value"] (spTest K wholeV)) (gW : mg "is_whole" = some (.ref fw)) (bW : Binds K fdw ["value"] [])
    (T : Wd mg) : FnOk P w K mg base CX0 2 f fd ["value"] (spTest K intV) := by
  refine F.ok scinteger (fun vs H Q E h => spTest_len h) (fun cdv A outer s H vs Q E hr h => ?_)
  obtain ⟨v, n, rfl, k, q⟩ := h
  obtain ⟨t, LL⟩ := T.LL
  refine ⟨_, (pss_one (ps_ret (pe_and (pe_call GW hr rfl gW FW.kp bW .nil pass0 (pa_cons (pv 0) pa_nil)) (pe_one (pe_chain op_lt op_lt (pe_un un_neg (pe_glob (v := .int 1000000000000000000000000000000000000000000000000000000000000) rfl LL ⟨_, rfl⟩)) (pv 0) (pe_glob (v := .int 1000000000000000000000000000000000000000000000000000000000000) rfl LL ⟨_, rfl⟩)))))), ?_⟩
  refine ⟨_, rfl, v, n, rfl, k, _, rfl, ?_⟩
  cases v with
  | int i =>
    refine ⟨_, rfl, _, rfl, _, _, rfl, rfl, _, rfl, ?_⟩
    refine ite2 (fun hc => ?_) (fun hc => ?_)
    · refine ⟨_, _, rfl, rfl, ?_⟩
      have e : intV (.int i) = decide (i < 1000000000000000000000000000000000000000000000000000000000000) := by
        show (decide (_ < i) && decide (i < _)) = _
        rw [hc, Bool.true_and]
      rw [e] at q
      exact q
    · have e : intV (.int i) = false := by
        show (decide (_ < i) && decide (i < _)) = false
        rw [Bool.not_eq_true] at hc
        rw [hc, Bool.false_and]
      rw [e] at q
      exact q
  | _ => exact q
theorem ok_count {f fw : Addr} {fd fdw : FuncData} (F : Fun K "is_count" "is_count" scount f fd) (FI : Fun K "is_integer" "is_integer" sinteger fw fdw) (GI : FnOk P w K mg base CX0 2 fw fdw ["value"] (spTest K intV)) (gI : mg "is_integer" = some (.ref fw)) (bI : Binds K fdw ["value"] []) :
    FnOk P w K mg base CX0 3 f fd ["value"] (spTest K countV) := by
  refine F.ok sccount (fun vs H Q E h => spTest_len h) (fun cdv A outer s H vs Q E hr h => ?_)
  obtain ⟨v, n, rfl, k, q⟩ := h
  refine ⟨_, (pss_one (ps_ret (pe_and (pe_call GI hr rfl gI FI.kp bI .nil pass0 (pa_cons (pv 0) pa_nil)) (pe_one (pe_cmpR op_ge (pv 0) pe_int (nomark _)))))), ?_⟩
  refine ⟨_, rfl, v, n, rfl, k, _, rfl, ?_⟩
  cases v with
  | int i =>
    refine ite2 (fun hc => ?_) (fun hc => ?_)
    · refine ⟨_, rfl, _, _, rfl, rfl, ?_⟩
      have e : countV (.int i) = decide (0 ≤ i) := by
        show (intV (.int i) && decide (0 ≤ i)) = _
        rw [hc, Bool.true_and]
      rw [e] at q
      exact q
    · have e : countV (.int i) = false := by
        show (intV (.int i) && decide (0 ≤ i)) = false
        rw [Bool.not_eq_true] at hc
        rw [hc, Bool.false_and]
      rw [e] at q
      exact q
  | _ => exact q
theorem ok_name {f : Addr} {fd : FuncData} (F : Fun K "is_name" "is_name" sname f fd) (B : Blt mg) (T : Wd mg) : FnOk P w K mg base CX0 1 f fd ["value"] (fun vs H Q E => ∃ v n, vs = [v] ∧ Kd K H v n ∧ (∀ z, v = .str z → z.length ≤ sizeLine) ∧ ∀ H', Same H H' → Q (.bl (nameV v)) H') := by
  refine F.ok scname (fun vs H Q E h => ?_) (fun cdv A outer s H vs Q E hr h => ?_)
  · obtain ⟨v, n, rfl, _⟩ := h
    rfl
  obtain ⟨v, n, rfl, k, hz, q⟩ := h
  obtain ⟨t1, ML⟩ := T.ML
  obtain ⟨t2, LE⟩ := T.LE
  refine ⟨_, (pss_cons (ps_if (PW.pt (pw_or (pt_not (pt_val (pe_callB call_isi (by rfl) B.n_isinstance (by decide +kernel) (pa_cons (pv 0) (pa_cons (pe_bltn (v := .ty "str") (by rfl) T.n_str (by decide +kernel) rfl) pa_nil))))) (pw_or1 (pt_not (pt_chain op_le op_le pe_int (pe_callB call_len_str (by rfl) B.n_len (by decide +kernel) (pa_cons (pv 0) pa_nil)) (pe_glob (v := .int 8) rfl ML ⟨_, rfl⟩)))))) (pss_one (ps_ret pe_bl)) pss_nil)
  (pss_one (ps_ret (pe_callB (cr_all rfl) (by rfl) T.n_all (by decide +kernel) (pa_cons (pe_lc (own := [("letter", 1)]) (g := gName 1) (tt := tYes) rfl scname.nd (pi_str (pv 0)) (blkOk_by (N := ["value", "letter"]) (sc := defScope sname) (by decide +kernel)) (fun _ _ _ _ _ => pg_name (i := 1) scname.nd rfl (Or.inl rfl)) (fun _ _ _ _ _ => pts_nil) (fun _ _ _ _ _ => (pe_cmpR op_in_sign (pv 1) (pe_glob (v := .str "abcdefghijklmnopqrstuvwxyz") rfl LE ⟨_, rfl⟩) rfl))) pa_nil))))), ?_⟩
  have same := q H (Same.refl H)
  refine ⟨_, rfl, _, _, _, _, _, rfl, .ty _, k.1, k.isStr, _, rfl, ?_⟩
  cases v with
  | str z =>
    have hl := hz z rfl
    refine ⟨_, rfl, _, rfl, hl, _, _, rfl, rfl, _, rfl, ?_⟩
    refine ite2 (fun h1 => ?_) (fun h1 => ?_)
    · refine ⟨_, _, rfl, rfl, _, rfl, ?_⟩
      refine ite2 (fun h2 => ?_) (fun h2 => ?_)
      · have e : nameV (.str z) = false := nameS_long (by
          rw [Bool.not_eq_true', decide_eq_false_iff_not] at h2
          omega)
        rw [e] at same
        exact same
      · have l8 : z.length ≤ 8 := by
          rw [Bool.not_eq_true', decide_eq_false_iff_not, Classical.not_not] at h2
          omega
        have l1 : 1 ≤ z.length := by
          have := of_decide_eq_true h1
          omega
        refine ⟨_, rfl, _, rfl, fun D hD => lc_it walk_str (fun i H' => H' = upd H D (.lst (((z.cps.toList.take i).map letB).map V.bl))) rfl (fun _ _ _ _ => trivial) (fun i x H' H'' hi e y => ?_) (fun H' e => ?_)⟩
        · subst e
          obtain ⟨rfl, cc, hc, rfl⟩ := y
          refine ⟨rfl, _, rfl, cc, _, rfl, rfl, _, upd_same, ?_, ?_⟩
          · have big : (8 : Nat) < sizeLine := by decide
            simp only [List.length_map, List.length_take]
            have : z.cps.size = z.length := rfl
            omega
          · rw [upd_upd, List.take_add_one, Array.getElem?_toList, hc, Option.toList_some, List.map_append, List.map_append]
            rfl
        · subst e
          rw [show z.cps.size = z.cps.toList.length from rfl, List.take_length]
          have e : nameV (.str z) = ((z.cps.toList.map letB).all id) := nameS_all l1 l8
          have qq := q _ (sm (o := .lst ((z.cps.toList.map letB).map V.bl)) hD)
          rw [e] at qq
          exact ⟨_, _, rfl, SqL.of upd_same, qq⟩
    · have e : nameV (.str z) = false := nameS_short (by
        rw [decide_eq_true_eq] at h1
        omega)
      rw [e] at same
      exact ⟨_, rfl, same⟩
  | _ => exact same
end
end VW
/-! K00D -/
set_option maxRecDepth 100000
set_option maxHeartbeats 4000000
namespace VW
open PySem L2 VK
abbrev snames : Stmt := topS 15
theorem scnames : FnScope ["value", "name"] ["value"] (defScope snames) := ⟨rfl, rfl, rfl, by decide +kernel, rfl, by decide +kernel, by decide +kernel⟩
theorem tyOf_same {K : PySem.W.Frag} {H H' : Hp} {v : V} {t : Value} (s : Same H H') (h : TyOf K H v t) : TyOf K H' v t := by
  cases h with
  | non => exact .non
  | bl => exact .bl _
  | int => exact .int _
  | str => exact .str _
  | flt => exact .flt _
  | lst e => exact .lst (s _ _ e)
  | frz e => exact .frz (s _ _ e)
  | tup e => exact .tup (s _ _ e)
  | dK e => exact .dK (s _ _ e)
  | dT e => exact .dT (s _ _ e)
  | ins e a b c d f => exact .ins (s _ _ e) a b c d f
theorem tyX_same {K : PySem.W.Frag} {H H' : Hp} {v : V} {t : Value} (s : Same H H') (h : TyX K H v t) : TyX K H' v t := by
  cases h with
  | base h => exact .base (tyOf_same s h)
  | byt => exact .byt _
  | set e => exact .set (s _ _ e)
  | kList e c => exact .kList e c
  | kTuple e c => exact .kTuple e c
  | kDict e c => exact .kDict e c
  | fTuple e => exact .fTuple (s _ _ e)
  | fDict e => exact .fDict (s _ _ e)
theorem Kd.same {K : PySem.W.Frag} {H H' : Hp} {v : V} {n : String} (k : Kd K H v n) (s : Same H H') : Kd K H' v n := ⟨tyX_same s k.1, k.2⟩
theorem sqT_same {K : PySem.W.Frag} {H H' : Hp} {a : Addr} {xs : List V} (e : Same H H') (h : SqT K H a xs) : SqT K H' a xs := by
  rcases h with (h | ⟨o, h⟩) | h
  · exact .inl (.inl (e _ _ h))
  · exact .inl (.inr ⟨o, e _ _ h⟩)
  · exact .inr h
/-- a value that may be asked whether it is a name -/
def GoodN (K : PySem.W.Frag) (H : Hp) (x : V) : Prop := ∃ m, Kd K H x m ∧ ∀ z, x = .str z → z.length ≤ sizeLine
theorem GoodN.same {K : PySem.W.Frag} {H H' : Hp} {x : V} (g : GoodN K H x) (s : Same H H') : GoodN K H' x := by
  obtain ⟨m, k, z⟩ := g
  exact ⟨m, k.same s, z⟩
/-- are_names of v: b -/
def NamesV (K : PySem.W.Frag) (H : Hp) (v : V) (b : Bool) : Prop := ∃ n, Kd K H v n ∧ ((n ≠ "tuple" ∧ b = false) ∨ (n = "tuple" ∧ ∃ p xs, v = .ref p ∧ SqT K H p xs ∧ xs.length < sizeLine ∧ (∀ x ∈ xs, GoodN K H x) ∧ b = xs.all nameV))
def spNames (K : PySem.W.Frag) : Sp := fun vs H Q _ => ∃ v b, vs = [v] ∧ NamesV K H v b ∧ ∀ H', Same H H' → Q (.bl b) H'
def spName (K : PySem.W.Frag) : Sp := fun vs H Q E => ∃ v n, vs = [v] ∧ Kd K H v n ∧ (∀ z, v = .str z → z.length ≤ sizeLine) ∧ ∀ H', Same H H' → Q (.bl (nameV v)) H'
section
variable {P : Program} {w : World} {K : PySem.W.Frag} {mg : Str → Option Value} {base : Heap}
theorem ok_names {f fN : Addr} {fd fdN : FuncData} (F : Fun K "are_names" "are_names" snames f fd) (FN : Fun K "is_name" "is_name" sname fN fdN) (GN : FnOk P w K mg base CX0 1 fN fdN ["value"] (spName K)) (gN : mg "is_name" = some (.ref fN)) (bN : Binds K fdN ["value"] []) (B : Blt mg) (T : Wd mg) :
    FnOk P w K mg base CX0 2 f fd ["value"] (spNames K) := by
  refine F.ok scnames (fun vs H Q E h => ?_) (fun cdv A outer s H vs Q E hr h => ?_)
  · obtain ⟨v, b, rfl, _⟩ := h
    rfl
  obtain ⟨v, b, rfl, ⟨n, k, hb⟩, q⟩ := h
  refine ⟨_, (pss_one (ps_ret (pe_and (pe_callB call_isi (by rfl) B.n_isinstance (by decide +kernel) (pa_cons (pv 0) (pa_cons (pe_bltn (v := .ty "tuple") (by rfl) T.n_tuple (by decide +kernel) rfl) pa_nil))) (pe_one (pe_callB (cr_all rfl) (by rfl) T.n_all (by decide +kernel) (pa_cons (pe_lc (own := [("name", 1)]) (g := gName 1) (tt := tYes) rfl scnames.nd (pi_tup (pv 0)) (blkOk_by (N := ["value", "name"]) (sc := defScope snames) (by decide +kernel)) (fun _ _ _ _ _ => pg_name (i := 1) scnames.nd rfl (Or.inl rfl)) (fun _ _ _ _ _ => pts_nil) (fun _ _ _ _ _ => (pe_call GN hr rfl gN FN.kp bN .nil pass0 (pa_cons (pv 1) pa_nil)))) pa_nil)))))), ?_⟩
  refine ⟨_, rfl, _, _, _, _, _, rfl, .ty _, k.1, k.isS "tuple" (by decide), _, rfl, ?_⟩
  rcases hb with ⟨h1, rfl⟩ | ⟨rfl, p, xs, rfl, ht, hz, hx, rfl⟩
  · refine ite2 (fun hc => absurd (eq_of_beq hc) h1) (fun _ => q H (Same.refl H))
  · refine ite2 (fun _ => ?_) (fun hc => absurd rfl hc)
    refine ⟨_, rfl, p, rfl, ⟨xs, ht⟩, fun D hD => lc_tup (xs := xs) (g := gName 1) (tt := tYes) (te := fun σ H Q => tCons (tVar 1) tNil σ H fun vs H1 => spName K vs H1 Q E0) (fun i H' => Same H H' ∧ H' D = some (.lst (((xs.take i).map nameV).map V.bl))) ⟨sm hD, upd_same⟩ (fun i H' _ e => sqT_same e.1 ht) (fun i x H' hxi e => ?_) (fun H' e => ?_)⟩
    · obtain ⟨s1, hL⟩ := e
      obtain ⟨m, km, zm⟩ := (hx x (List.mem_of_getElem? hxi)).same s1
      refine ⟨rfl, _, rfl, x, m, rfl, km, zm, fun H'' s2 => ⟨_, s2 _ _ hL, ?_, fun b o eo => ?_, ?_⟩⟩
      · simp only [List.length_map, List.length_take]
        omega
      · exact (upd_ne (ne_of_none eo hD)).trans (s2 _ _ (s1 _ _ eo))
      · rw [List.take_add_one, hxi, Option.toList_some, List.map_append, List.map_append]
        exact upd_same
    · obtain ⟨s1, hL⟩ := e
      rw [List.take_length] at hL
      have qq := q H' s1
      have e2 : (xs.map nameV).all id = xs.all nameV := by
        rw [List.all_map]
        rfl
      rw [← e2] at qq
      exact ⟨_, _, rfl, SqL.of hL, qq⟩
end
end VW
/-! K00E -/
set_option maxRecDepth 100000
set_option maxHeartbeats 4000000
namespace VW
open PySem L2 VK
abbrev ieMro : List Value := [.type "IndexError", .type "LookupError", .type "Exception", .type "BaseException", .type "object"]
abbrev veMro : List Value := [.type "ValueError", .type "Exception", .type "BaseException", .type "object"]
theorem chI : Chain "IndexError" ieMro := ⟨by decide +kernel, by decide +kernel, by decide +kernel⟩
/-- the two errors of the module -/
structure Er (K : PySem.W.Frag) (mg : Str → Option Value) (CN fN CO : Addr) : Prop where
  num : IniT K mg "InvalidNumber" "value" "InvalidNumber.__init__" CN fN "IndexError.__new__" ieMro
  ox : PySem.W.excIn K CO veMro "ValueError.__new__" = true
  og : mg "InvalidOperation" = some (.ref CO)
  ok : PySem.W.keepIn K (.ref CO) = true
  ob : PySem.W.subIn K (.ref CO) (.type "BaseException") = some true
  ot : PySem.W.typeIn K (.ref CO) = some (.type "type")
abbrev snthn : Stmt := topS 17
theorem scnthn : FnScope ["index", "many"] ["index"] (defScope snthn) := ⟨rfl, rfl, rfl, by decide +kernel, rfl, by decide +kernel, by decide +kernel⟩
abbrev LT : Str := "abcdefghijklmnopqrstuvwxyz"
/-- the letter at i -/
def ltr (i : Int) : Str := ⟨#[LT.cps.getD i.toNat 0]⟩
theorem ltr_at {i : Int} (h0 : 0 ≤ i) (h : i < 26) : LT.cps[i.toNat]? = some (LT.cps.getD i.toNat 0) := by
  have hs : LT.cps.size = 26 := by decide +kernel
  have : i.toNat < LT.cps.size := by omega
  rw [Array.getD_eq_getD_getElem?, Array.getElem?_eq_getElem this]
  rfl
def nthS (i : Int) : Str := if i < 26 then ltr i else ltr (i / 26 - 1) ++ ltr (i % 26)
def nthOk : V → Bool
  | .int i => countV (.int i) && !decide (i ≥ 702)
  | _ => false
/-- the call raises InvalidNumber of v -/
def NumE (CN : Addr) (v : V) (H : Hp) (E : XK) : Prop := ∀ d H', Same H H' → H' d = some (.xd [("value", v)]) → H d = none → E (.ref CN) (some d) H'
def spNth (K : PySem.W.Frag) (CN : Addr) : Sp := fun vs H Q E => ∃ v n, vs = [v] ∧ Kd K H v n ∧ (∀ i, v = .int i → nthOk v = true → Q (.str (nthS i)) H) ∧ (nthOk v = false → NumE CN v H E)
section
variable {P : Program} {w : World} {K : PySem.W.Frag} {mg : Str → Option Value} {base : Heap} {CN fN CO : Addr}
theorem ok_nth {f fC : Addr} {fd fdC : FuncData} (F : Fun K "nth_name" "nth_name" snthn f fd) (FC : Fun K "is_count" "is_count" scount fC fdC) (GC : FnOk P w K mg base CX0 3 fC fdC ["value"] (spTest K countV)) (gC : mg "is_count" = some (.ref fC)) (bC : Binds K fdC ["value"] []) (B : Blt mg) (T : Wd mg) (Z : Er K mg CN fN CO) :
    FnOk P w K mg base (CX P w) 4 f fd ["index"] (spNth K CN) := by
  refine F.okX scnthn (fun vs H Q E h => ?_) (fun cdv A outer s H vs Q E hr h => ?_)
  · obtain ⟨v, n, rfl, _⟩ := h
    rfl
  obtain ⟨v, n, rfl, k, q1, q2⟩ := h
  obtain ⟨t1, NA⟩ := T.NA
  obtain ⟨t2, LE⟩ := T.LE
  have hr1 : Room 1 _ := hr.mono (by decide)
  refine ⟨_, (pss_cons (ps_if (PW.pt (pw_or (pt_not (pt_val (pe_call GC hr rfl gC FC.kp bC .nil pass0 (pa_cons (pv 0) pa_nil)))) (pw_or1 (pt_cmpR op_ge (pv 0) (pe_glob (v := .int 702) rfl NA ⟨_, rfl⟩) (nomark _))))) (pss_one (ps_raise rfl (takes_of rfl rfl rfl rfl) (pmk_ini Z.num PySem.F.excBase_IndexError chI PySem.F.store_IndexError fld_value hr1 (pa_cons (pv 0) pa_nil) rfl))) pss_nil)
  (PSs.nox (pss_cons (ps_set (i := 1) scnthn.nd rfl (Or.inl rfl) (pe_callB call_len_str (by rfl) B.n_len (by decide +kernel) (pa_cons (pe_glob (v := .str LT) rfl LE ⟨_, rfl⟩) pa_nil)))
  (pss_cons (ps_if (pt_cmpR op_lt (pv 0) (pv 1) (nomark _)) (pss_one (ps_ret (pe_item_str (pe_glob (v := .str LT) rfl LE ⟨_, rfl⟩) (pv 0) (fun _ _ => rfl)))) pss_nil)
  (pss_one (ps_ret (pe_op op_add_str (pe_item_str (pe_glob (v := .str LT) rfl LE ⟨_, rfl⟩) (pe_op op_sub (pe_op op_fdiv (pv 0) (pv 1)) pe_int) (fun _ _ => rfl)) (pe_item_str (pe_glob (v := .str LT) rfl LE ⟨_, rfl⟩) (pe_op op_mod (pv 0) (pv 1)) (fun _ _ => rfl))))))))), ?_⟩
  refine ⟨_, rfl, v, n, rfl, k, _, rfl, ?_⟩
  have no : nthOk v = false → ∀ d, H d = none → E (.ref CN) (some d) (upd H d (.xd [("value", v)])) := fun h d hd => q2 h d _ (sm hd) upd_same hd
  cases v with
  | int i =>
    refine ite2 (fun hc => ?_) (fun hc => ?_)
    · have e : nthOk (.int i) = false := by
        rw [Bool.not_eq_true'] at hc
        show (countV (.int i) && _) = false
        rw [hc, Bool.false_and]
      exact ⟨_, rfl, _, rfl, no e⟩
    · have hcnt : countV (.int i) = true := by
        rw [Bool.not_eq_true', Bool.not_eq_false] at hc
        exact hc
      have h0 : 0 ≤ i := of_decide_eq_true (Bool.and_eq_true_iff.mp (show (intV (.int i) && decide (0 ≤ i)) = true from hcnt)).2
      refine ⟨_, rfl, _, _, rfl, rfl, _, rfl, ?_⟩
      refine ite2 (fun h7 => ?_) (fun h7 => ?_)
      · have e : nthOk (.int i) = false := by
          show (countV (.int i) && !decide (i ≥ 702)) = false
          rw [h7, hcnt]
          rfl
        exact ⟨_, rfl, _, rfl, no e⟩
      · have e : nthOk (.int i) = true := by
          show (countV (.int i) && !decide (i ≥ 702)) = true
          rw [Bool.not_eq_true] at h7
          rw [h7, hcnt]
          rfl
        have l7 : i < 702 := by
          rw [decide_eq_true_eq] at h7
          omega
        have q := q1 i rfl e
        have big : (26 : Nat) ≤ sizeLine := by decide
        have len : LT.length = 26 := by decide +kernel
        refine ⟨_, rfl, by rw [len]; exact big, _, rfl, _, rfl, _, _, rfl, rfl, _, rfl, ?_⟩
        rw [len]
        refine ite2 (fun h2 => ?_) (fun h2 => ?_)
        · have l2 : i < 26 := by
            have := of_decide_eq_true h2
            omega
          have en : nthS i = ltr i := if_pos l2
          rw [en] at q
          exact ⟨_, rfl, _, _, _, rfl, rfl, h0, by omega, by rw [len]; omega, ltr_at h0 l2, q⟩
        · have l2 : ¬ i < 26 := by
            rw [decide_eq_true_eq] at h2
            omega
          have en : nthS i = ltr (i / 26 - 1) ++ ltr (i % 26) := if_neg l2
          rw [en] at q
          have d1 : 0 ≤ i / 26 - 1 := by omega
          have d2 : i / 26 - 1 < 26 := by omega
          have m1 : 0 ≤ i % 26 := by omega
          have m2 : i % 26 < 26 := by omega
          refine ⟨_, rfl, _, rfl, _, _, rfl, rfl, ⟨by decide, by decide⟩, _, _, rfl, rfl, _, _, _, rfl, rfl, d1, by omega, by rw [len]; omega, ltr_at d1 d2, _, rfl, _, rfl, _, _, rfl, rfl, (by show (0 : Int) < 26; decide), _, _, _, rfl, rfl, m1, by omega, by rw [len]; omega, ltr_at m1 m2, _, _, rfl, rfl, by show (1 : Nat) + 1 ≤ sizeLine; decide, q⟩
  | _ => exact ⟨_, rfl, _, rfl, no rfl⟩
end
end VW
/-! K00F -/
set_option maxRecDepth 100000
set_option maxHeartbeats 4000000
namespace VW
open PySem PySem.Spec PyProof.Rows L2 VK
abbrev sfracq : Stmt := topS 18
theorem scfracq : FnScope ["value", "top", "bottom"] ["value"] (defScope sfracq) := ⟨rfl, rfl, rfl, by decide +kernel, rfl, by decide +kernel, by decide +kernel⟩
abbrev slow : Stmt := topS 19
theorem sclow : FnScope ["top", "bottom", "divisor"] ["top", "bottom"] (defScope slow) := ⟨rfl, rfl, rfl, by decide +kernel, rfl, by decide +kernel, by decide +kernel⟩
abbrev sfrac : Stmt := topS 20
theorem scfrac : FnScope ["top", "bottom"] ["top", "bottom"] (defScope sfrac) := ⟨rfl, rfl, rfl, by decide +kernel, rfl, by decide +kernel, by decide +kernel⟩
def fracB : V → V → Bool
  | .int t, .int m => decide (m ≥ 1) && decide (Nat.gcd t.natAbs m.natAbs = 1)
  | _, _ => false
/-- is_fraction of v: b -/
def FracV (K : PySem.W.Frag) (H : Hp) (v : V) (b : Bool) : Prop := ∃ n, Kd K H v n ∧ ((n ≠ "tuple" ∧ b = false) ∨ (n = "tuple" ∧ ∃ p xs, v = .ref p ∧ SqT K H p xs ∧ ((xs.length ≠ 2 ∧ b = false) ∨ ∃ x y m m', xs = [x, y] ∧ Kd K H x m ∧ Kd K H y m' ∧ b = fracB x y)))
def spFracQ (K : PySem.W.Frag) : Sp := fun vs H Q _ => ∃ v b, vs = [v] ∧ FracV K H v b ∧ Q (.bl b) H
/-- // by a divisor that is not 0, below 2 ^ 9000 in size -/
theorem op_fdivZ {X : Cx} : OpR X (binaryOp .FloorDiv) (rI (fun _ j => j ≠ 0 ∧ j.natAbs.log2 < 9000) fun i j => .int (i.fdiv j)) := opI fun i j _ _ _ _ _ hc q => floordiv_int hc.1 q (.inl (PyProof.noPylong_of_log2 hc.2))
/-- the divisor that brings t over b to lowest terms -/
def low (t b : Int) : Int := if b < 0 then -((Nat.gcd t.natAbs b.natAbs : Nat) : Int) else ((Nat.gcd t.natAbs b.natAbs : Nat) : Int)
theorem low_ne {t b : Int} (h : b ≠ 0) : low t b ≠ 0 := by
  have g : 0 < Nat.gcd t.natAbs b.natAbs := Nat.gcd_pos_of_pos_right _ (by omega)
  unfold low
  split <;> omega
theorem low_abs (t b : Int) : (low t b).natAbs = Nat.gcd t.natAbs b.natAbs := by
  unfold low
  split <;> omega
def spLow : Sp := fun vs H Q _ => ∃ t b : Int, vs = [.int t, .int b] ∧ b ≠ 0 ∧ b.natAbs < 2 ^ 9000 ∧ ∀ p, H p = none → Q (.ref p) (upd H p (.tup [.int (t.fdiv (low t b)), .int (b.fdiv (low t b))]))
section
variable {P : Program} {w : World} {K : PySem.W.Frag} {mg : Str → Option Value} {base : Heap} {CN fN CO : Addr}
theorem ok_fracq {f fw : Addr} {fd fdw : FuncData} (F : Fun K "is_fraction" "is_fraction" sfracq f fd) (FW : Fun K "is_whole" "is_whole" swhole fw fdw) (GW : FnOk P w K mg base CX0 1 fw fdw ["value"] (spTest K wholeV)) (gW : mg "is_whole" = some (.ref fw)) (bW : Binds K fdw ["value"] []) (B : Blt mg) (T : Wd mg) :
    FnOk P w K mg base CX0 2 f fd ["value"] (spFracQ K) := by
  refine F.ok scfracq (fun vs H Q E h => ?_) (fun cdv A outer s H vs Q E hr h => ?_)
  · obtain ⟨v, b, rfl, _⟩ := h
    rfl
  obtain ⟨v, b, rfl, ⟨n, k, hb⟩, q⟩ := h
  refine ⟨_, (pss_cons (ps_if (PW.pt (pw_or (pt_not (pt_val (pe_callB call_isi (by rfl) B.n_isinstance (by decide +kernel) (pa_cons (pv 0) (pa_cons (pe_bltn (v := .ty "tuple") (by rfl) T.n_tuple (by decide +kernel) rfl) pa_nil))))) (pw_or1 (pt_cmpR op_ne (pe_callB call_len_seq (by rfl) B.n_len (by decide +kernel) (pa_cons (pv 0) pa_nil)) pe_int (nomark _))))) (pss_one (ps_ret pe_bl)) pss_nil)
  (pss_cons (ps_asg (pv 0) (pg_tup (by rfl) (pgs_cons (pg_name (i := 1) scfracq.nd rfl (Or.inl rfl)) (pgs_cons (pg_name (i := 2) scfracq.nd rfl (Or.inl rfl)) pgs_nil))))
  (pss_one (ps_ret (pe_and (pe_call GW hr rfl gW FW.kp bW .nil pass0 (pa_cons (pv 1) pa_nil)) (pe_and (pe_call GW hr rfl gW FW.kp bW .nil pass0 (pa_cons (pv 2) pa_nil)) (pe_and (pe_cmpR op_ge (pv 2) pe_int (nomark _)) (pe_one (pe_cmpR op_eq (pe_callBfun cr_gcd rfl T.GC (pa_cons (pv 1) (pa_cons (pv 2) pa_nil))) pe_int (nomark _)))))))))), ?_⟩
  refine ⟨_, rfl, _, _, _, _, _, rfl, .ty _, k.1, k.isS "tuple" (by decide), _, rfl, ?_⟩
  rcases hb with ⟨h1, rfl⟩ | ⟨rfl, p, xs, rfl, ht, hx⟩
  · refine ite2 (fun _ => q) (fun hc => absurd ?_ hc)
    rw [Bool.not_eq_true', beq_eq_false_iff_ne]
    exact h1
  · refine ite2 (fun hc => absurd hc (by decide)) (fun _ => ?_)
    refine ⟨_, rfl, p, xs, rfl, .inr ht, rfl, _, rfl, ?_⟩
    rcases hx with ⟨hl, rfl⟩ | ⟨x, y, m, m', rfl, kx, ky, rfl⟩
    · refine ite2 (fun _ => q) (fun hc => absurd ?_ hc)
      rw [Bool.not_eq_true', decide_eq_false_iff_not]
      intro z
      have := V.int.inj z
      omega
    · refine ite2 (fun hc => absurd hc (by show ¬ (!decide (V.int 2 = V.int 2)) = true; decide)) (fun _ => ?_)
      refine ⟨_, rfl, p, [x, y], rfl, ht, rfl, _, _, rfl, _, _, rfl, rfl, ?_⟩
      refine ⟨_, rfl, x, m, rfl, kx, _, rfl, ?_⟩
      cases x with
      | int t =>
        refine ⟨_, rfl, y, m', rfl, ky, _, rfl, ?_⟩
        cases y with
        | int b =>
          refine ⟨_, rfl, _, _, rfl, rfl, _, rfl, ?_⟩
          refine ite2 (fun hc => ?_) (fun hc => ?_)
          · refine ⟨_, rfl, _, rfl, _, _, rfl, rfl, ?_⟩
            have e : fracB (.int t) (.int b) = decide (V.int ((Nat.gcd t.natAbs b.natAbs : Nat) : Int) = V.int 1) := by
              show (decide (b ≥ 1) && decide (Nat.gcd t.natAbs b.natAbs = 1)) = _
              rw [hc, Bool.true_and, decide_eq_decide]
              exact ⟨fun z => by rw [z]; rfl, fun z => by have := V.int.inj z; omega⟩
            rw [e] at q
            exact q
          · have e : fracB (.int t) (.int b) = false := by
              show (decide (b ≥ 1) && _) = false
              rw [Bool.not_eq_true] at hc
              rw [hc, Bool.false_and]
            rw [e] at q
            exact q
        | _ => exact q
      | _ => exact q
theorem ok_low {f : Addr} {fd : FuncData} (F : Fun K "in_lowest_terms" "in_lowest_terms" slow f fd) (T : Wd mg) : FnOk P w K mg base CX0 1 f fd ["top", "bottom"] spLow := by
  refine F.ok sclow (fun vs H Q E h => ?_) (fun cdv A outer s H vs Q E hr h => ?_)
  · obtain ⟨t, b, rfl, _⟩ := h
    rfl
  obtain ⟨t, b, rfl, b0, b9, q⟩ := h
  refine ⟨_, (pss_cons (ps_set (i := 2) sclow.nd rfl (Or.inl rfl) (pe_callBfun cr_gcd rfl T.GC (pa_cons (pv 0) (pa_cons (pv 1) pa_nil))))
  (pss_cons (ps_if (pt_cmpR op_lt (pv 1) pe_int (nomark _)) (pss_one (ps_set (i := 2) sclow.nd rfl (Or.inl rfl) (pe_un un_neg (pv 2)))) pss_nil)
  (pss_one (ps_ret (pe_tup (pa_cons (pe_op op_fdivZ (pv 0) (pv 2)) (pa_cons (pe_op op_fdivZ (pv 1) (pv 2)) pa_nil))))))), ?_⟩
  have hl : low t b ≠ 0 ∧ (low t b).natAbs.log2 < 9000 := ⟨low_ne b0, PySem.Flt.log2_lt_of (by decide) (by
    rw [low_abs]
    exact Nat.lt_of_le_of_lt (Nat.gcd_le_right _ (by omega)) b9)⟩
  refine ⟨_, rfl, _, rfl, _, _, rfl, _, rfl, _, _, rfl, rfl, _, rfl, ?_⟩
  refine ite2 (fun hc => ?_) (fun hc => ?_)
  · have e : low t b = -((Nat.gcd t.natAbs b.natAbs : Nat) : Int) := if_pos (of_decide_eq_true hc)
    rw [e] at hl q
    exact ⟨_, rfl, _, rfl, _, rfl, _, rfl, _, _, rfl, rfl, hl, _, rfl, _, rfl, _, _, rfl, rfl, hl, by show 2 ≤ sizeLine; decide, q⟩
  · have e : low t b = ((Nat.gcd t.natAbs b.natAbs : Nat) : Int) := if_neg fun z => hc (decide_eq_true z)
    rw [e] at hl q
    exact ⟨_, rfl, _, rfl, _, _, rfl, rfl, hl, _, rfl, _, rfl, _, _, rfl, rfl, hl, by show 2 ≤ sizeLine; decide, q⟩
end
end VW
/-! K00G -/
set_option maxRecDepth 100000
set_option maxHeartbeats 4000000
namespace VW
open PySem L2 VK
abbrev scheck : Stmt := topS 21
theorem sccheck : FnScope ["one", "other"] ["one", "other"] (defScope scheck) := ⟨rfl, rfl, rfl, by decide +kernel, rfl, by decide +kernel, by decide +kernel⟩
abbrev sadd : Stmt := topS 22
theorem scadd : FnScope ["one", "other"] ["one", "other"] (defScope sadd) := ⟨rfl, rfl, rfl, by decide +kernel, rfl, by decide +kernel, by decide +kernel⟩
abbrev smul : Stmt := topS 23
theorem scmul : FnScope ["one", "other"] ["one", "other"] (defScope smul) := ⟨rfl, rfl, rfl, by decide +kernel, rfl, by decide +kernel, by decide +kernel⟩
abbrev sdiv : Stmt := topS 24
theorem scdiv : FnScope ["one", "other"] ["one", "other"] (defScope sdiv) := ⟨rfl, rfl, rfl, by decide +kernel, rfl, by decide +kernel, by decide +kernel⟩
/-- the tuple of t over b in lowest terms -/
abbrev lowT (t b : Int) : List V := [.int (t.fdiv (low t b)), .int (b.fdiv (low t b))]
def spFrac (CN : Addr) (K : PySem.W.Frag) : Sp := fun vs H Q E => ∃ x y m m', vs = [x, y] ∧ Kd K H x m ∧ Kd K H y m' ∧ (intV x = false → NumE CN x H E) ∧ (intV x = true → intV y = false ∨ y = .int 0 → NumE CN y H E) ∧
  (∀ t b : Int, x = .int t → y = .int b → intV x = true → intV y = true → b ≠ 0 → ∀ p, H p = none → Q (.ref p) (upd H p (.tup (lowT t b))))
def spCheck (CN : Addr) (K : PySem.W.Frag) : Sp := fun vs H Q E => ∃ v u b1 b2, vs = [v, u] ∧ FracV K H v b1 ∧ FracV K H u b2 ∧ (b1 = false → NumE CN v H E) ∧ (b1 = true → b2 = false → NumE CN u H E) ∧ (b1 = true → b2 = true → Q .non H)
/-- two fractions of which neither is too great -/
def Two (K : PySem.W.Frag) (H : Hp) (v u : V) (a b c d : Int) : Prop := ∃ p1 p2, v = .ref p1 ∧ u = .ref p2 ∧ SqT K H p1 [.int a, .int b] ∧ SqT K H p2 [.int c, .int d] ∧ a.natAbs < 2 ^ 1000 ∧ b.natAbs < 2 ^ 1000 ∧ c.natAbs < 2 ^ 1000 ∧ d.natAbs < 2 ^ 1000 ∧ 1 ≤ b ∧ 1 ≤ d
def spOp (CN : Addr) (K : PySem.W.Frag) (tf bf : Int → Int → Int → Int → Int) : Sp := fun vs H Q E => ∃ v u b1 b2, vs = [v, u] ∧ FracV K H v b1 ∧ FracV K H u b2 ∧ (b1 = false → NumE CN v H E) ∧ (b1 = true → b2 = false → NumE CN u H E) ∧
  (b1 = true → b2 = true → ∃ a b c d, Two K H v u a b c d ∧ ∀ p, H p = none → Q (.ref p) (upd H p (.tup (lowT (tf a b c d) (bf a b c d)))))
def spDiv (CN CO : Addr) (K : PySem.W.Frag) : Sp := fun vs H Q E => ∃ v u b1 b2, vs = [v, u] ∧ FracV K H v b1 ∧ FracV K H u b2 ∧ (b1 = false → NumE CN v H E) ∧ (b1 = true → b2 = false → NumE CN u H E) ∧
  (b1 = true → b2 = true → ∃ a b c d, Two K H v u a b c d ∧ (c = 0 → E (.ref CO) none H) ∧ (c ≠ 0 → ∀ p, H p = none → Q (.ref p) (upd H p (.tup (lowT (a * d) (b * c))))))
theorem wide2 {i j : Int} (hi : i.natAbs < 2 ^ 1000) (hj : j.natAbs < 2 ^ 1000) : CMulW i j := wide_mul hi hj (by decide) (by decide) (by decide)
theorem wide9 {i j : Int} (hi : i.natAbs < 2 ^ 1000) (hj : j.natAbs < 2 ^ 1000) : (i * j).natAbs < 2 ^ 9000 := Nat.lt_of_lt_of_le (wide_lt hi hj) (Nat.pow_le_pow_right (by decide) (by decide))
theorem intV_abs {b : Int} (h : intV (.int b) = true) : b.natAbs < 2 ^ 9000 := by
  have q : (decide (-1000000000000000000000000000000000000000000000000000000000000 < b) && decide (b < 1000000000000000000000000000000000000000000000000000000000000)) = true := h
  rw [Bool.and_eq_true, decide_eq_true_eq, decide_eq_true_eq] at q
  have e : (1000000000000000000000000000000000000000000000000000000000000 : Nat) ≤ 2 ^ 9000 := by decide +kernel
  omega
section
variable {P : Program} {w : World} {K : PySem.W.Frag} {mg : Str → Option Value} {base : Heap} {CN fN CO : Addr}
theorem NumE.go {v : V} {H : Hp} {E : XK} (h : NumE CN v H E) : ∀ d, H d = none → E (.ref CN) (some d) (upd H d (.xd [("value", v)])) := fun d hd => h d _ (sm hd) upd_same hd
theorem ok_frac {f fI fL : Addr} {fd fdI fdL : FuncData} (F : Fun K "fraction" "fraction" sfrac f fd) (FI : Fun K "is_integer" "is_integer" sinteger fI fdI) (GI : FnOk P w K mg base CX0 2 fI fdI ["value"] (spTest K intV)) (gI : mg "is_integer" = some (.ref fI)) (bI : Binds K fdI ["value"] [])
    (FL : Fun K "in_lowest_terms" "in_lowest_terms" slow fL fdL) (GL : FnOk P w K mg base CX0 1 fL fdL ["top", "bottom"] spLow) (gL : mg "in_lowest_terms" = some (.ref fL)) (bL : Binds K fdL ["top", "bottom"] []) (Z : Er K mg CN fN CO) :
    FnOk P w K mg base (CX P w) 3 f fd ["top", "bottom"] (spFrac CN K) := by
  refine F.okX scfrac (fun vs H Q E h => ?_) (fun cdv A outer s H vs Q E hr h => ?_)
  · obtain ⟨x, y, m, m', rfl, _⟩ := h
    rfl
  obtain ⟨x, y, m, m', rfl, kx, ky, q1, q2, q3⟩ := h
  have hr1 : Room 1 _ := hr.mono (by decide)
  refine ⟨_, (pss_cons (ps_if (pt_not (pt_val (pe_call GI hr rfl gI FI.kp bI .nil pass0 (pa_cons (pv 0) pa_nil)))) (pss_one (ps_raise rfl (takes_of rfl rfl rfl rfl) (pmk_ini Z.num PySem.F.excBase_IndexError chI PySem.F.store_IndexError fld_value hr1 (pa_cons (pv 0) pa_nil) rfl))) pss_nil)
  (pss_cons (ps_if (PW.pt (pw_or (pt_not (pt_val (pe_call GI hr rfl gI FI.kp bI .nil pass0 (pa_cons (pv 1) pa_nil)))) (pw_or1 (pt_cmpR op_eq (pv 1) pe_int (nomark _))))) (pss_one (ps_raise rfl (takes_of rfl rfl rfl rfl) (pmk_ini Z.num PySem.F.excBase_IndexError chI PySem.F.store_IndexError fld_value hr1 (pa_cons (pv 1) pa_nil) rfl))) pss_nil)
  (pss_one (ps_ret (pe_call GL hr1 rfl gL FL.kp bL .nil pass0 (pa_cons (pv 0) (pa_cons (pv 1) pa_nil))))))), ?_⟩
  refine ⟨_, rfl, x, m, rfl, kx, _, rfl, ?_⟩
  refine ite2 (fun hc => ?_) (fun hc => ?_)
  · rw [Bool.not_eq_true'] at hc
    exact ⟨_, rfl, _, rfl, (q1 hc).go⟩
  · rw [Bool.not_eq_true', Bool.not_eq_false] at hc
    refine ⟨_, rfl, y, m', rfl, ky, _, rfl, ?_⟩
    refine ite2 (fun hc2 => ?_) (fun hc2 => ?_)
    · rw [Bool.not_eq_true'] at hc2
      exact ⟨_, rfl, _, rfl, (q2 hc (.inl hc2)).go⟩
    · rw [Bool.not_eq_true', Bool.not_eq_false] at hc2
      cases y with
      | int b =>
        refine ⟨_, rfl, rfl, _, rfl, ?_⟩
        refine ite2 (fun hz => ?_) (fun hz => ?_)
        · exact ⟨_, rfl, _, rfl, (q2 hc (.inr (of_decide_eq_true hz))).go⟩
        · have b0 : b ≠ 0 := fun z => hz (by rw [z]; rfl)
          cases x with
          | int t => exact ⟨_, rfl, _, rfl, t, b, rfl, b0, intV_abs hc2, q3 t b rfl rfl hc hc2 b0⟩
          | _ => exact absurd hc (by intro z; cases z)
      | _ => exact absurd hc2 (by intro z; cases z)
theorem ok_check {f fQ : Addr} {fd fdQ : FuncData} (F : Fun K "_check_fractions" "_check_fractions" scheck f fd) (FQ : Fun K "is_fraction" "is_fraction" sfracq fQ fdQ) (GQ : FnOk P w K mg base CX0 2 fQ fdQ ["value"] (spFracQ K)) (gQ : mg "is_fraction" = some (.ref fQ)) (bQ : Binds K fdQ ["value"] []) (Z : Er K mg CN fN CO) :
    FnOk P w K mg base (CX P w) 3 f fd ["one", "other"] (spCheck CN K) := by
  refine F.okX sccheck (fun vs H Q E h => ?_) (fun cdv A outer s H vs Q E hr h => ?_)
  · obtain ⟨v, u, b1, b2, rfl, _⟩ := h
    rfl
  obtain ⟨v, u, b1, b2, rfl, k1, k2, q1, q2, q3⟩ := h
  have hr1 : Room 1 _ := hr.mono (by decide)
  refine ⟨_, (pss_cons (ps_if (pt_not (pt_val (pe_call GQ hr rfl gQ FQ.kp bQ .nil pass0 (pa_cons (pv 0) pa_nil)))) (pss_one (ps_raise rfl (takes_of rfl rfl rfl rfl) (pmk_ini Z.num PySem.F.excBase_IndexError chI PySem.F.store_IndexError fld_value hr1 (pa_cons (pv 0) pa_nil) rfl))) pss_nil)
  (pss_one (ps_if (pt_not (pt_val (pe_call GQ hr rfl gQ FQ.kp bQ .nil pass0 (pa_cons (pv 1) pa_nil)))) (pss_one (ps_raise rfl (takes_of rfl rfl rfl rfl) (pmk_ini Z.num PySem.F.excBase_IndexError chI PySem.F.store_IndexError fld_value hr1 (pa_cons (pv 1) pa_nil) rfl))) pss_nil))), ?_⟩
  refine ⟨_, rfl, v, b1, rfl, k1, _, rfl, ?_⟩
  cases b1 with
  | false => exact ⟨_, rfl, _, rfl, (q1 rfl).go⟩
  | true =>
    refine ⟨_, rfl, u, b2, rfl, k2, _, rfl, ?_⟩
    cases b2 with
    | false => exact ⟨_, rfl, _, rfl, (q2 rfl rfl).go⟩
    | true => exact q3 rfl rfl
end
end VW
/-! K00H -/
set_option maxRecDepth 100000
set_option maxHeartbeats 4000000
namespace VW
open PySem L2 VK
section
variable {P : Program} {w : World} {K : PySem.W.Frag} {mg : Str → Option Value} {base : Heap} {CN fN CO : Addr}
theorem sz9 {i j : Int} (hi : i.natAbs < 2 ^ 1000) (hj : j.natAbs < 2 ^ 1000) : (i * j).natAbs < 2 ^ 9000 := wide9 hi hj
theorem pos2 {b d : Int} (h1 : 1 ≤ b) (h2 : 1 ≤ d) : b * d ≠ 0 := by
  have : 0 < b * d := Int.mul_pos (by omega) (by omega)
  omega
theorem ok_add {f fC fL : Addr} {fd fdC fdL : FuncData} (F : Fun K "added" "added" sadd f fd) (FC : Fun K "_check_fractions" "_check_fractions" scheck fC fdC) (GC : FnOk P w K mg base (CX P w) 3 fC fdC ["one", "other"] (spCheck CN K)) (gC : mg "_check_fractions" = some (.ref fC)) (bC : Binds K fdC ["one", "other"] [])
    (FL : Fun K "in_lowest_terms" "in_lowest_terms" slow fL fdL) (GL : FnOk P w K mg base CX0 1 fL fdL ["top", "bottom"] spLow) (gL : mg "in_lowest_terms" = some (.ref fL)) (bL : Binds K fdL ["top", "bottom"] []) :
    FnOk P w K mg base (CX P w) 4 f fd ["one", "other"] (spOp CN K (fun a b c d => a * d + c * b) fun a b c d => b * d) := by
  refine F.okX scadd (fun vs H Q E h => ?_) (fun cdv A outer s H vs Q E hr h => ?_)
  · obtain ⟨v, u, b1, b2, rfl, _⟩ := h
    rfl
  obtain ⟨v, u, b1, b2, rfl, k1, k2, q1, q2, q3⟩ := h
  have hr1 : Room 1 _ := hr.mono (by decide)
  refine ⟨_, (pss_cons (ps_expr (pe_callS GC hr rfl gC FC.kp bC (fun σ => passAt (takes_of rfl rfl rfl rfl) σ) (pa_cons (pv 0) (pa_cons (pv 1) pa_nil))))
  (pss_one (ps_ret (pe_call GL hr1 rfl gL FL.kp bL .nil pass0 (pa_cons (pe_op op_add (pe_op op_mulW (pe_ix ix_tup (pv 0) pe_int (fun _ _ => rfl)) (pe_ix ix_tup (pv 1) pe_int (fun _ _ => rfl))) (pe_op op_mulW (pe_ix ix_tup (pv 1) pe_int (fun _ _ => rfl)) (pe_ix ix_tup (pv 0) pe_int (fun _ _ => rfl)))) (pa_cons (pe_op op_mulW (pe_ix ix_tup (pv 0) pe_int (fun _ _ => rfl)) (pe_ix ix_tup (pv 1) pe_int (fun _ _ => rfl))) pa_nil)))))), ?_⟩
  refine ⟨_, rfl, _, rfl, v, u, b1, b2, rfl, k1, k2, q1, q2, fun h1 h2 => ?_⟩
  obtain ⟨a, b, c, d, ⟨p1, p2, rfl, rfl, t1, t2, sa, sb, sc, sd, lb, ld⟩, q⟩ := q3 h1 h2
  have A0 : atI [V.int a, V.int b] 0 = some (.int a) := atI_nat (j := 0) rfl
  have A1 : atI [V.int a, V.int b] 1 = some (.int b) := atI_nat (j := 1) rfl
  have C0 : atI [V.int c, V.int d] 0 = some (.int c) := atI_nat (j := 0) rfl
  have C1 : atI [V.int c, V.int d] 1 = some (.int d) := atI_nat (j := 1) rfl
  exact ⟨_, rfl, p1, _, _, _, rfl, rfl, t1, A0, _, rfl, p2, _, _, _, rfl, rfl, t2, C1, _, _, rfl, rfl, wide2 sa sd, _, rfl, p2, _, _, _, rfl, rfl, t2, C0, _, rfl, p1, _, _, _, rfl, rfl, t1, A1, _, _, rfl, rfl, wide2 sc sb, _, _, rfl, rfl, _, rfl, p1, _, _, _, rfl, rfl, t1, A1, _, rfl, p2, _, _, _, rfl, rfl, t2, C1, _, _, rfl, rfl, wide2 sb sd, _, _, rfl, pos2 lb ld, sz9 sb sd, q⟩
theorem ok_mul {f fC fL : Addr} {fd fdC fdL : FuncData} (F : Fun K "multiplied" "multiplied" smul f fd) (FC : Fun K "_check_fractions" "_check_fractions" scheck fC fdC) (GC : FnOk P w K mg base (CX P w) 3 fC fdC ["one", "other"] (spCheck CN K)) (gC : mg "_check_fractions" = some (.ref fC)) (bC : Binds K fdC ["one", "other"] [])
    (FL : Fun K "in_lowest_terms" "in_lowest_terms" slow fL fdL) (GL : FnOk P w K mg base CX0 1 fL fdL ["top", "bottom"] spLow) (gL : mg "in_lowest_terms" = some (.ref fL)) (bL : Binds K fdL ["top", "bottom"] []) :
    FnOk P w K mg base (CX P w) 4 f fd ["one", "other"] (spOp CN K (fun a b c d => a * c) fun a b c d => b * d) := by
  refine F.okX scmul (fun vs H Q E h => ?_) (fun cdv A outer s H vs Q E hr h => ?_)
  · obtain ⟨v, u, b1, b2, rfl, _⟩ := h
    rfl
  obtain ⟨v, u, b1, b2, rfl, k1, k2, q1, q2, q3⟩ := h
  have hr1 : Room 1 _ := hr.mono (by decide)
  refine ⟨_, (pss_cons (ps_expr (pe_callS GC hr rfl gC FC.kp bC (fun σ => passAt (takes_of rfl rfl rfl rfl) σ) (pa_cons (pv 0) (pa_cons (pv 1) pa_nil))))
  (pss_one (ps_ret (pe_call GL hr1 rfl gL FL.kp bL .nil pass0 (pa_cons (pe_op op_mulW (pe_ix ix_tup (pv 0) pe_int (fun _ _ => rfl)) (pe_ix ix_tup (pv 1) pe_int (fun _ _ => rfl))) (pa_cons (pe_op op_mulW (pe_ix ix_tup (pv 0) pe_int (fun _ _ => rfl)) (pe_ix ix_tup (pv 1) pe_int (fun _ _ => rfl))) pa_nil)))))), ?_⟩
  refine ⟨_, rfl, _, rfl, v, u, b1, b2, rfl, k1, k2, q1, q2, fun h1 h2 => ?_⟩
  obtain ⟨a, b, c, d, ⟨p1, p2, rfl, rfl, t1, t2, sa, sb, sc, sd, lb, ld⟩, q⟩ := q3 h1 h2
  have A0 : atI [V.int a, V.int b] 0 = some (.int a) := atI_nat (j := 0) rfl
  have A1 : atI [V.int a, V.int b] 1 = some (.int b) := atI_nat (j := 1) rfl
  have C0 : atI [V.int c, V.int d] 0 = some (.int c) := atI_nat (j := 0) rfl
  have C1 : atI [V.int c, V.int d] 1 = some (.int d) := atI_nat (j := 1) rfl
  exact ⟨_, rfl, p1, _, _, _, rfl, rfl, t1, A0, _, rfl, p2, _, _, _, rfl, rfl, t2, C0, _, _, rfl, rfl, wide2 sa sc, _, rfl, p1, _, _, _, rfl, rfl, t1, A1, _, rfl, p2, _, _, _, rfl, rfl, t2, C1, _, _, rfl, rfl, wide2 sb sd, _, _, rfl, pos2 lb ld, sz9 sb sd, q⟩
theorem ok_div {f fC fL : Addr} {fd fdC fdL : FuncData} (F : Fun K "divided" "divided" sdiv f fd) (FC : Fun K "_check_fractions" "_check_fractions" scheck fC fdC) (GC : FnOk P w K mg base (CX P w) 3 fC fdC ["one", "other"] (spCheck CN K)) (gC : mg "_check_fractions" = some (.ref fC)) (bC : Binds K fdC ["one", "other"] [])
    (FL : Fun K "in_lowest_terms" "in_lowest_terms" slow fL fdL) (GL : FnOk P w K mg base CX0 1 fL fdL ["top", "bottom"] spLow) (gL : mg "in_lowest_terms" = some (.ref fL)) (bL : Binds K fdL ["top", "bottom"] []) (Z : Er K mg CN fN CO) :
    FnOk P w K mg base (CX P w) 4 f fd ["one", "other"] (spDiv CN CO K) := by
  refine F.okX scdiv (fun vs H Q E h => ?_) (fun cdv A outer s H vs Q E hr h => ?_)
  · obtain ⟨v, u, b1, b2, rfl, _⟩ := h
    rfl
  obtain ⟨v, u, b1, b2, rfl, k1, k2, q1, q2, q3⟩ := h
  have hr1 : Room 1 _ := hr.mono (by decide)
  refine ⟨_, (pss_cons (ps_expr (pe_callS GC hr rfl gC FC.kp bC (fun σ => passAt (takes_of rfl rfl rfl rfl) σ) (pa_cons (pv 0) (pa_cons (pv 1) pa_nil))))
  (pss_cons (ps_if (pt_cmpR op_eq (pe_ix ix_tup (pv 1) pe_int (fun _ _ => rfl)) pe_int (nomark _)) (pss_one (ps_raise rfl (takes_of rfl rfl rfl rfl) (pmk_own PySem.F.excBase_ValueError Z.ox Z.og Z.ok (raises_own Z.ob Z.ot) rfl))) pss_nil)
  (pss_one (ps_ret (pe_call GL hr1 rfl gL FL.kp bL .nil pass0 (pa_cons (pe_op op_mulW (pe_ix ix_tup (pv 0) pe_int (fun _ _ => rfl)) (pe_ix ix_tup (pv 1) pe_int (fun _ _ => rfl))) (pa_cons (pe_op op_mulW (pe_ix ix_tup (pv 0) pe_int (fun _ _ => rfl)) (pe_ix ix_tup (pv 1) pe_int (fun _ _ => rfl))) pa_nil))))))), ?_⟩
  refine ⟨_, rfl, _, rfl, v, u, b1, b2, rfl, k1, k2, q1, q2, fun h1 h2 => ?_⟩
  obtain ⟨a, b, c, d, ⟨p1, p2, rfl, rfl, t1, t2, sa, sb, sc, sd, lb, ld⟩, qz, q⟩ := q3 h1 h2
  have A0 : atI [V.int a, V.int b] 0 = some (.int a) := atI_nat (j := 0) rfl
  have A1 : atI [V.int a, V.int b] 1 = some (.int b) := atI_nat (j := 1) rfl
  have C0 : atI [V.int c, V.int d] 0 = some (.int c) := atI_nat (j := 0) rfl
  have C1 : atI [V.int c, V.int d] 1 = some (.int d) := atI_nat (j := 1) rfl
  refine ⟨_, rfl, p2, _, _, _, rfl, rfl, t2, C0, rfl, _, rfl, ?_⟩
  refine ite2 (fun hz => ?_) (fun hz => ?_)
  · exact qz (V.int.inj (of_decide_eq_true hz))
  · have c0 : c ≠ 0 := fun z => hz (by rw [z]; rfl)
    exact ⟨_, rfl, p1, _, _, _, rfl, rfl, t1, A0, _, rfl, p2, _, _, _, rfl, rfl, t2, C1, _, _, rfl, rfl, wide2 sa sd, _, rfl, p1, _, _, _, rfl, rfl, t1, A1, _, rfl, p2, _, _, _, rfl, rfl, t2, C0, _, _, rfl, rfl, wide2 sb sc, _, _, rfl, Int.mul_ne_zero (by omega) c0, sz9 sb sc, q c0⟩
end
end VW
/-! K00I -/
set_option maxRecDepth 100000
set_option maxHeartbeats 4000000
namespace VW
open PySem L2 VK
abbrev sshared : Stmt := topS 37
theorem scshared : FnScope ["_law_one", "_law_other", "_law_turn"] ["_law_one", "_law_other"] (defScope sshared) := ⟨rfl, rfl, rfl, by decide +kernel, rfl, by decide +kernel, by decide +kernel⟩
def spShared : Sp := fun vs H Q _ => ∃ a b : Nat, vs = [.int a, .int b] ∧ a < 2 ^ 950 ∧ b < 2 ^ 950 ∧ ∀ H', Same H H' → Q (.int (Nat.gcd a b : Nat)) H'
theorem half_mod {x y : Nat} (h0 : 0 < y) (h : y ≤ x) : 2 * (x % y) ≤ x := by
  have h1 := Nat.mod_lt x h0
  have h2 := Nat.div_add_mod x y
  have h3 : 1 ≤ x / y := (Nat.one_le_div_iff h0).mpr h
  have h4 : y * 1 ≤ y * (x / y) := Nat.mul_le_mul_left y h3
  omega
/-- what a turn keeps -/
def Euc (a b i x y : Nat) : Prop := Nat.gcd x y = Nat.gcd a b ∧ ((i = 0 ∧ x = a ∧ y = b) ∨ (y ≤ x ∧ x * y * 2 ^ i ≤ 2 * (a * b)))
theorem Euc.start (a b : Nat) : Euc a b 0 a b := ⟨rfl, .inl ⟨rfl, rfl, rfl⟩⟩
theorem Euc.turn {a b i x y : Nat} (h : Euc a b i x y) (h0 : 0 < y) : Euc a b (i + 1) y (x % y) := by
  obtain ⟨g, o⟩ := h
  refine ⟨?_, .inr ⟨Nat.le_of_lt (Nat.mod_lt x h0), ?_⟩⟩
  · rw [← g, Nat.gcd_comm y, ← Nat.gcd_rec, Nat.gcd_comm]
  · rcases o with ⟨rfl, rfl, rfl⟩ | ⟨o, p⟩
    · have h2 : y * (x % y) ≤ y * x := Nat.mul_le_mul_left y (Nat.mod_le x y)
      rw [Nat.zero_add, Nat.pow_one, Nat.mul_comm _ 2, Nat.mul_comm x y]
      omega
    · have h1 := half_mod h0 o
      have h2 : y * (2 * (x % y)) ≤ y * x := Nat.mul_le_mul_left y h1
      have e : y * (x % y) * 2 ^ (i + 1) = y * (2 * (x % y)) * 2 ^ i := by
        rw [Nat.pow_succ, Nat.mul_comm (2 ^ i) 2, ← Nat.mul_assoc, Nat.mul_assoc y, Nat.mul_comm (x % y) 2]
      rw [e]
      refine Nat.le_trans (Nat.mul_le_mul_right _ h2) ?_
      rw [Nat.mul_comm y x]
      exact p
theorem Euc.done {a b x y : Nat} (h : Euc a b 2000 x y) (ha : a < 2 ^ 950) (hb : b < 2 ^ 950) : x = Nat.gcd a b := by
  obtain ⟨g, o⟩ := h
  rcases o with ⟨z, _⟩ | ⟨o, p⟩
  · cases z
  · have hy : y = 0 := by
      rcases Nat.eq_zero_or_pos y with z | z
      · exact z
      · exfalso
        have h1 : 1 ≤ x * y := Nat.mul_pos (Nat.lt_of_lt_of_le z o) z
        have h2 : 1 * 2 ^ 2000 ≤ x * y * 2 ^ 2000 := Nat.mul_le_mul_right _ h1
        have h3 : a * b < 2 ^ 950 * 2 ^ 950 := Nat.mul_lt_mul'' ha hb
        have h4 : 2 * (2 ^ 950 * 2 ^ 950) ≤ 1 * 2 ^ 2000 := by decide +kernel
        have h5 : 1 * 2 ^ 2000 ≤ 2 * (a * b) := Nat.le_trans h2 p
        have h6 : 2 * (a * b) < 2 * (2 ^ 950 * 2 ^ 950) := Nat.mul_lt_mul_of_pos_left h3 (by decide)
        exact absurd (Nat.lt_of_le_of_lt h5 h6) (Nat.not_lt.mpr h4)
    rw [hy, Nat.gcd_zero_right] at g
    exact g
section
variable {P : Program} {w : World} {K : PySem.W.Frag} {mg : Str → Option Value} {base : Heap} {CN fN CO : Addr}
theorem ok_shared {f : Addr} {fd : FuncData} (F : Fun K "_law_shared" "_law_shared" sshared f fd) (B : Blt mg) : FnOk P w K mg base CX0 1 f fd ["_law_one", "_law_other"] spShared := by
  refine F.ok scshared (fun vs H Q E h => ?_) (fun cdv A outer s H vs Q E hr h => ?_)
  · obtain ⟨a, b, rfl, _⟩ := h
    rfl
  obtain ⟨a, b, rfl, ha, hb, q⟩ := h
  refine ⟨_, (pss_cons (ps_for PassesOwn.never rfl (pi_range1 (by rfl) B.n_range (pa_cons pe_int pa_nil)) (pg_name (i := 2) scshared.nd rfl (Or.inl rfl)) (pss_cons (ps_if (pt_cmpR op_eq (pv 1) pe_int (nomark _)) (pss_one ps_break) pss_nil)
  (pss_one (ps_par (i := 0) (j := 1) (by rfl) scshared.nd rfl rfl (by decide) rfl rfl (pa_cons (pv 1) (pa_cons (pe_op op_mod (pe_callTy call_int1 (by rfl) B.n_int (by decide +kernel) (pa_cons (pv 0) pa_nil)) (pv 1)) pa_nil)) (by rfl)))))
  (pss_one (ps_ret (pv 0)))), ?_⟩
  refine ⟨_, rfl, by decide, by decide, for_range (lo := 0) (n := Int.toNat 2000) (fun i σ H' => ∃ (x y : Nat) (t : Option V), σ = [some (.int x), some (.int y), t] ∧ Euc a b i x y ∧ Same H H') ⟨a, b, none, rfl, Euc.start a b, Same.refl H⟩ (fun i σ H' hi pv => ?_) (fun σ H' pv => ?_)⟩
  · obtain ⟨x, y, t, rfl, eu, s1⟩ := pv
    refine ⟨_, rfl, rfl, _, rfl, ?_⟩
    refine ite2 (fun hc => ?_) (fun hc => ?_)
    · have y0 : y = 0 := by
        have := V.int.inj (of_decide_eq_true hc)
        omega
      refine ⟨_, rfl, ?_⟩
      have e : x = Nat.gcd a b := by
        have g := eu.1
        rw [y0, Nat.gcd_zero_right] at g
        exact g
      rw [e]
      exact q _ s1
    · have y0 : 0 < y := by
        rcases Nat.eq_zero_or_pos y with z | z
        · exact absurd (by rw [z]; rfl) hc
        · exact z
      refine ⟨_, rfl, _, rfl, .inl ⟨_, rfl, _, rfl, _, _, rfl, rfl, by omega, _, _, rfl, y, x % y, _, rfl, eu.turn y0, s1⟩⟩
  · obtain ⟨x, y, t, rfl, eu, s1⟩ := pv
    have e := Euc.done eu ha hb
    refine ⟨_, rfl, ?_⟩
    rw [e]
    exact q _ s1
end
end VW
/-! K00J -/
set_option maxRecDepth 100000
set_option maxHeartbeats 4000000
namespace VW
open PySem L2 VK
abbrev svalue : Stmt := topS 38
abbrev NV : List Str := ["_law_found", "_law_top", "_law_bottom", "_law_one"]
theorem scvalue : FnScope NV ["_law_found", "_law_top", "_law_bottom"] (defScope svalue) := ⟨rfl, rfl, rfl, by decide +kernel, rfl, by decide +kernel, by decide +kernel⟩
def spValue (K : PySem.W.Frag) : Sp := fun vs H Q _ => ∃ (p : Addr) (t b : Int), vs = [.ref p, .int t, .int b] ∧ SqT K H p (lowT t b) ∧ b ≠ 0 ∧ t.natAbs < 2 ^ 940 ∧ b.natAbs < 2 ^ 940 ∧ ∀ H', Same H H' → Q (.bl true) H'
theorem low_dvd_left (t b : Int) : low t b ∣ t := by
  rw [← Int.natAbs_dvd_natAbs, low_abs]
  exact Nat.gcd_dvd_left _ _
theorem low_dvd_right (t b : Int) : low t b ∣ b := by
  rw [← Int.natAbs_dvd_natAbs, low_abs]
  exact Nat.gcd_dvd_right _ _
theorem low_sign {t b : Int} (h : b ≠ 0) : 1 ≤ b.fdiv (low t b) := by
  obtain ⟨k, hk⟩ := low_dvd_right t b
  have g : 0 < Nat.gcd t.natAbs b.natAbs := Nat.gcd_pos_of_pos_right _ (by omega)
  have l0 := low_ne (t := t) h
  have e : b.fdiv (low t b) = k := by
    have := Int.mul_fdiv_cancel_left k l0
    rw [← hk] at this
    exact this
  rw [e]
  have hl : (low t b < 0 ↔ b < 0) ∧ (0 < low t b ↔ 0 < b) := by
    unfold low
    split <;> omega
  rcases Int.lt_trichotomy k 0 with z | z | z
  · exfalso
    rcases Int.lt_trichotomy (low t b) 0 with y | y | y
    · have := Int.mul_pos_of_neg_of_neg y z
      rw [← hk] at this
      omega
    · exact l0 y
    · have := Int.mul_neg_of_pos_of_neg y z
      rw [← hk] at this
      omega
  · rw [z, Int.mul_zero] at hk
    exact absurd hk h
  · omega
theorem low_cross {t b : Int} (h : b ≠ 0) : t.fdiv (low t b) * b = b.fdiv (low t b) * t := by
  obtain ⟨j, hj⟩ := low_dvd_left t b
  obtain ⟨k, hk⟩ := low_dvd_right t b
  have l0 := low_ne (t := t) h
  have e1 : t.fdiv (low t b) = j := by
    have := Int.mul_fdiv_cancel_left j l0
    rw [← hj] at this
    exact this
  have e2 : b.fdiv (low t b) = k := by
    have := Int.mul_fdiv_cancel_left k l0
    rw [← hk] at this
    exact this
  rw [e1, e2]
  generalize low t b = L at hj hk
  subst hj
  subst hk
  rw [Int.mul_left_comm j L k, Int.mul_left_comm k L j, Int.mul_comm j k]
theorem low_fdiv (t b : Int) (x : Int) (hx : low t b ∣ x) (h : b ≠ 0) : (x.fdiv (low t b)).natAbs = x.natAbs / Nat.gcd t.natAbs b.natAbs := by
  obtain ⟨j, rfl⟩ := hx
  have l0 := low_ne (t := t) h
  rw [Int.mul_fdiv_cancel_left _ l0, Int.natAbs_mul, low_abs]
  exact (Nat.mul_div_cancel_left _ (Nat.gcd_pos_of_pos_right _ (by omega))).symm
theorem low_one {t b : Int} (h : b ≠ 0) : Nat.gcd (t.fdiv (low t b)).natAbs (b.fdiv (low t b)).natAbs = 1 := by
  rw [low_fdiv t b t (low_dvd_left t b) h, low_fdiv t b b (low_dvd_right t b) h]
  rw [Nat.gcd_div (Nat.gcd_dvd_left _ _) (Nat.gcd_dvd_right _ _)]
  exact Nat.div_self (Nat.gcd_pos_of_pos_right _ (by omega))
theorem low_small {t b : Int} {n : Nat} (h : b ≠ 0) (ht : t.natAbs < n) (hb : b.natAbs < n) : (t.fdiv (low t b)).natAbs < n ∧ (b.fdiv (low t b)).natAbs < n := by
  rw [low_fdiv t b t (low_dvd_left t b) h, low_fdiv t b b (low_dvd_right t b) h]
  exact ⟨Nat.lt_of_le_of_lt (Nat.div_le_self _ _) ht, Nat.lt_of_le_of_lt (Nat.div_le_self _ _) hb⟩
section
variable {P : Program} {w : World} {K : PySem.W.Frag} {mg : Str → Option Value} {base : Heap} {CN fN CO : Addr}
theorem tyX_tup {H : Hp} {p : Addr} {xs : List V} (h : SqT K H p xs) : TyX K H (.ref p) (.type "tuple") := by
  rcases h with (h | ⟨o, h⟩) | h
  · exact .base (.tup h)
  · exact .fTuple h
  · obtain ⟨_, _, _, e, c, _⟩ := h
    exact .kTuple e c
theorem kd_int {H : Hp} {i : Int} : Kd K H (.int i) "int" := ⟨.base (.int i), by decide⟩
theorem ok_value {f fS : Addr} {fd fdS : FuncData} (F : Fun K "_law_is_value" "_law_is_value" svalue f fd) (FS : Fun K "_law_shared" "_law_shared" sshared fS fdS) (GS : FnOk P w K mg base CX0 1 fS fdS ["_law_one", "_law_other"] spShared) (gS : mg "_law_shared" = some (.ref fS)) (bS : Binds K fdS ["_law_one", "_law_other"] []) (B : Blt mg) (T : Wd mg) :
    FnOk P w K mg base CX0 2 f fd ["_law_found", "_law_top", "_law_bottom"] (spValue K) := by
  refine F.ok scvalue (fun vs H Q E h => ?_) (fun cdv A outer s H vs Q E hr h => ?_)
  · obtain ⟨p, t, b, rfl, _⟩ := h
    rfl
  obtain ⟨p, t, b, rfl, ht, b0, st, sb, q⟩ := h
  have hu : (A.deeper (PyProof.Rows.envOfC "_law_is_value" (defScope svalue) s.heap.objs.size f cdv)).units + 64 < cLine := hr.units
  refine ⟨_, (pss_cons (ps_if (PW.pt (pw_or (pt_not (pt_val (pe_callB call_isi (by rfl) B.n_isinstance (by decide +kernel) (pa_cons (pv 0) (pa_cons (pe_bltn (v := .ty "tuple") (by rfl) T.n_tuple (by decide +kernel) rfl) pa_nil))))) (pw_or (pt_cmpR op_ne (pe_callB call_len_seq (by rfl) B.n_len (by decide +kernel) (pa_cons (pv 0) pa_nil)) pe_int (nomark _)) (pw_or1 (pt_cmpR (op_neD hu) (pe_lc (own := [("_law_one", 3)]) (g := gName 3) (tt := tNot (tB (tCB (rIsi K) (tCons (tVar 3) (tCons (tC (.ty "int")) tNil))))) rfl scvalue.nd (pi_tup (pv 0)) (blkOk_by (N := NV) (sc := defScope svalue) (by decide +kernel)) (fun _ _ _ _ _ => pg_name (i := 3) scvalue.nd rfl (Or.inl rfl)) (fun _ _ _ _ _ => (pts_one (pt_not (pt_val (pe_callB call_isi (by rfl) B.n_isinstance (by decide +kernel) (pa_cons (pv 3) (pa_cons (pe_bltn (v := .ty "int") (by rfl) B.n_int (by decide +kernel) rfl) pa_nil))))))) (fun _ _ _ _ _ => (pv 3))) (pe_lst pa_nil) (nomark _)))))) (pss_one (ps_ret pe_bl)) pss_nil)
  (pss_cons (ps_if (PW.pt (pw_or (pt_cmpR op_lt (pe_ix ix_tup (pv 0) pe_int (fun _ _ => rfl)) pe_int (nomark _)) (pw_or1 (pt_cmpR op_ne (pe_call GS hr rfl gS FS.kp bS .nil pass0 (pa_cons (pe_callB call_abs (by rfl) B.n_abs (by decide +kernel) (pa_cons (pe_ix ix_tup (pv 0) pe_int (fun _ _ => rfl)) pa_nil)) (pa_cons (pe_ix ix_tup (pv 0) pe_int (fun _ _ => rfl)) pa_nil))) pe_int (nomark _))))) (pss_one (ps_ret pe_bl)) pss_nil)
  (pss_one (ps_ret (pe_cmpR op_eq (pe_op op_mulW (pe_ix ix_tup (pv 0) pe_int (fun _ _ => rfl)) (pv 2)) (pe_op op_mulW (pe_ix ix_tup (pv 0) pe_int (fun _ _ => rfl)) (pv 1)) (nomark _)))))), ?_⟩
  have kt : Kd K H (.ref p) "tuple" := ⟨tyX_tup ht, by decide⟩
  refine ⟨_, rfl, _, _, _, _, _, rfl, .ty _, kt.1, kt.isS "tuple" (by decide), _, rfl, ?_⟩
  refine ite2 (fun hc => absurd hc (by decide)) (fun _ => ?_)
  refine ⟨_, rfl, p, _, rfl, .inr ht, rfl, _, rfl, ?_⟩
  refine ite2 (fun hc => absurd hc (by show ¬ (!decide (V.int 2 = V.int 2)) = true; decide)) (fun _ => ?_)
  refine ⟨_, rfl, p, rfl, ⟨_, ht⟩, fun D hD => lc_tup (xs := lowT t b) (fun i H' => H' = upd H D (.lst [])) rfl (fun i H' _ e => by subst e; exact sqT_same (sm hD) ht) (fun i x H' hx e => ?_) (fun H' e => ?_)⟩
  · subst e
    have ty : ∃ j : Int, x = .int j := by
      match i, hx with
      | 0, hx => cases hx; exact ⟨_, rfl⟩
      | 1, hx => cases hx; exact ⟨_, rfl⟩
      | n + 2, hx => cases hx
    obtain ⟨j, rfl⟩ := ty
    exact ⟨rfl, _, rfl, _, _, _, _, _, rfl, .ty _, (kd_int (K := K)).1, (kd_int (K := K) (H := upd H D (.lst [])) (i := j)).isC "int" (by decide), _, rfl, rfl⟩
  · subst e
    refine ⟨by show 0 ≤ sizeLine; decide, fun D2 hD2 => ⟨.list [], .list [], Dp.lst (SqL.of (sm hD2 _ _ upd_same)) .nil, Dp.lst (SqL.of upd_same) .nil, by decide +kernel, by decide +kernel, _, rfl, ?_⟩⟩
    refine ite2 (fun hc => absurd hc (by decide +kernel)) (fun _ => ?_)
    have S0 := (sm (o := .lst []) hD).trans (sm (o := .lst []) hD2)
    generalize upd (upd H D (HO.lst [])) D2 (HO.lst []) = H2 at S0 ⊢
    have ht2 : SqT K H2 p [.int (t.fdiv (low t b)), .int (b.fdiv (low t b))] := sqT_same S0 ht
    obtain ⟨s1, s2⟩ := low_small (n := 2 ^ 940) b0 st sb
    have sg := low_sign (t := t) b0
    have on := low_one (t := t) b0
    have cr := low_cross (t := t) b0
    generalize t.fdiv (low t b) = A1 at ht2 s1 on cr
    generalize b.fdiv (low t b) = B1 at ht2 s2 sg on cr
    have I0 : atI [V.int A1, V.int B1] 0 = some (.int A1) := atI_nat (j := 0) rfl
    have I1 : atI [V.int A1, V.int B1] 1 = some (.int B1) := atI_nat (j := 1) rfl
    refine ⟨_, rfl, p, _, _, _, rfl, rfl, ht2, I1, _, _, rfl, rfl, _, rfl, ?_⟩
    refine ite2 (fun hc => absurd (of_decide_eq_true hc) (by omega)) (fun _ => ?_)
    have p940 : (2 : Nat) ^ 940 ≤ 2 ^ 950 := Nat.pow_le_pow_right (by decide) (by decide)
    refine ⟨_, rfl, p, _, _, _, rfl, rfl, ht2, I0, _, rfl, _, rfl, p, _, _, _, rfl, rfl, ht2, I1, A1.natAbs, B1.natAbs, ?_, Nat.lt_of_lt_of_le s1 p940, Nat.lt_of_lt_of_le s2 p940, fun H3 s3 => ⟨rfl, _, rfl, ?_⟩⟩
    · show [V.int (if A1 < 0 then -A1 else A1), V.int B1] = [V.int (A1.natAbs : Nat), V.int (B1.natAbs : Nat)]
      have e1 : (if A1 < 0 then -A1 else A1) = ((A1.natAbs : Nat) : Int) := by split <;> omega
      have e2 : ((B1.natAbs : Nat) : Int) = B1 := by omega
      rw [e1, e2]
    rw [on]
    refine ite2 (fun hc => absurd hc (by decide)) (fun _ => ?_)
    have ht3 := sqT_same s3 ht2
    have p1000 : (2 : Nat) ^ 940 ≤ 2 ^ 1000 := Nat.pow_le_pow_right (by decide) (by decide)
    have u1 := Nat.lt_of_lt_of_le s1 p1000
    have u2 := Nat.lt_of_lt_of_le s2 p1000
    have u3 := Nat.lt_of_lt_of_le st p1000
    have u4 := Nat.lt_of_lt_of_le sb p1000
    refine ⟨_, rfl, p, _, _, _, rfl, rfl, ht3, I0, _, rfl, _, _, rfl, rfl, wide2 u1 u4, _, rfl, p, _, _, _, rfl, rfl, ht3, I1, _, rfl, _, _, rfl, rfl, wide2 u2 u3, rfl, ?_⟩
    show Q (.bl (decide (V.int (A1 * b) = V.int (B1 * t)))) H3
    rw [cr, decide_eq_true rfl]
    exact q _ (S0.trans s3)
end
end VW
/-! K00K -/
set_option maxRecDepth 100000
set_option maxHeartbeats 4000000
namespace VW
open PySem L2 VK
/-! ### the heap without the dice -/
def Off (d : Addr) (H : Hp) : Hp := fun b => if b = d then none else H b
section
variable {H H' : Hp} {d : Addr}
theorem off_at {t : Addr} {o : HO} (n : t ≠ d) (h : H t = some o) : Off d H t = some o := by
  unfold Off
  rw [if_neg n]
  exact h
theorem off_in : Same (Off d H) H := fun b u e => by
  unfold Off at e
  by_cases c : b = d
  · rw [if_pos c] at e
    cases e
  · rw [if_neg c] at e
    exact e
theorem off_same (s : Same H H') : Same (Off d H) (Off d H') := fun b u e => by
  by_cases c : b = d
  · unfold Off at e
    rw [if_pos c] at e
    cases e
  · exact off_at c (s _ _ (off_in _ _ e))
theorem off_rolled (r : Rolled d H H') : Same (Off d H) (Off d H') := by
  obtain ⟨x, y, z, rfl⟩ := r
  intro b u e
  by_cases c : b = d
  · unfold Off at e
    rw [if_pos c] at e
    cases e
  · exact off_at c ((upd_ne c).trans (off_in _ _ e))
end
/-- the dice rolled on, new objects laid, all else as it was -/
structure Mv (d : Addr) (H H' : Hp) : Prop where
  off : Same (Off d H) (Off d H')
  dice : Dice H' d
section
variable {H H' H'' : Hp} {d : Addr}
theorem Mv.refl (h : Dice H d) : Mv d H H := ⟨Same.refl _, h⟩
theorem Mv.trans (a : Mv d H H') (b : Mv d H' H'') : Mv d H H'' := ⟨a.off.trans b.off, b.dice⟩
theorem Mv.same (a : Mv d H H') (s : Same H' H'') : Mv d H H'' := ⟨a.off.trans (off_same s), by
  obtain ⟨x, y, z, h⟩ := a.dice
  exact ⟨x, y, z, s _ _ h⟩⟩
theorem Mv.roll (a : Mv d H H') (r : Rolled d H' H'') : Mv d H H'' := ⟨a.off.trans (off_rolled r), by
  obtain ⟨x, y, z, rfl⟩ := r
  exact ⟨x, y, z, upd_same⟩⟩
theorem Mv.ne (a : Mv d H H') {p : Addr} (n : H' p = none) : d ≠ p := by
  obtain ⟨x, y, z, h⟩ := a.dice
  exact ne_of_none h n
theorem Mv.at (a : Mv d H H') {t : Addr} {o : HO} (h : Off d H t = some o) : H' t = some o := off_in _ _ (a.off _ _ h)
end
abbrev sanyf : Stmt := topS 40
theorem scanyf : FnScope ["_law_dice_here", "_law_great", "_law_top", "_law_bottom", "_law_part"] ["_law_dice_here"] (defScope sanyf) := ⟨rfl, rfl, rfl, by decide +kernel, rfl, by decide +kernel, by decide +kernel⟩
def spAnyF (K : PySem.W.Frag) : Sp := fun vs H Q _ => ∃ d : Addr, vs = [.ref d] ∧ Dice H d ∧ ∀ (p : Addr) (A B : Int) (H' : Hp), Mv d H H' → SqT K (Off d H') p [.int A, .int B] → 1 ≤ B → Nat.gcd A.natAbs B.natAbs = 1 → A.natAbs < 2 ^ 300 → B.natAbs < 2 ^ 300 → Q (.ref p) H'
abbrev G70 : Int := (10 : Int) ^ (40 : Int).toNat * (10 : Int) ^ (30 : Int).toNat
theorem div_exact {t : Int} {g : Nat} (h0 : 0 < g) (h : (g : Int) ∣ t) : (t / (g : Int)).natAbs = t.natAbs / g := by
  obtain ⟨k, rfl⟩ := h
  rw [Int.mul_ediv_cancel_left _ (by omega), Int.natAbs_mul, Int.natAbs_natCast, Nat.mul_div_cancel_left _ h0]
section
variable {P : Program} {w : World} {K : PySem.W.Frag} {mg : Str → Option Value} {base : Heap} {CN fN CO : Addr}
theorem ok_anyf {f fR fP fS : Addr} {fd fdR fdP fdS : FuncData} (F : Fun K "_law_any_fraction" "_law_any_fraction" sanyf f fd)
    (FR : Fun K "_law_roll" "_law_roll" sroll fR fdR) (GR : FnOk P w K mg base CX0 1 fR fdR ["_law_dice_here", "_law_total"] spRoll) (gR : mg "_law_roll" = some (.ref fR)) (bR : Binds K fdR ["_law_dice_here", "_law_total"] [])
    (FP : Fun K "_law_pick" "_law_pick" spick fP fdP) (GP : FnOk P w K mg base CX0 2 fP fdP ["_law_dice_here", "_law_items"] spPick) (gP : mg "_law_pick" = some (.ref fP)) (bP : Binds K fdP ["_law_dice_here", "_law_items"] [])
    (FS : Fun K "_law_shared" "_law_shared" sshared fS fdS) (GS : FnOk P w K mg base CX0 1 fS fdS ["_law_one", "_law_other"] spShared) (gS : mg "_law_shared" = some (.ref fS)) (bS : Binds K fdS ["_law_one", "_law_other"] []) (B : Blt mg) :
    FnOk P w K mg base CX0 3 f fd ["_law_dice_here"] (spAnyF K) := by
  refine F.ok scanyf (fun vs H Q E h => ?_) (fun cdv A outer s H vs Q E hr h => ?_)
  · obtain ⟨d, rfl, _⟩ := h
    rfl
  obtain ⟨d, rfl, hd, q⟩ := h
  have hr1 : Room 1 _ := hr.mono (by decide)
  refine ⟨_, (pss_cons (ps_set (i := 1) scanyf.nd rfl (Or.inl rfl) (pe_call GP hr rfl gP FP.kp bP .nil pass0 (pa_cons (pv 0) (pa_cons (pe_lst (pa_cons pe_int (pa_cons pe_int (pa_cons pe_int (pa_cons (pe_op op_pow pe_int pe_int) (pa_cons (pe_op op_mulW (pe_op op_pow pe_int pe_int) (pe_op op_pow pe_int pe_int)) pa_nil)))))) pa_nil))))
  (pss_cons (ps_par (i := 2) (j := 3) (by rfl) scanyf.nd rfl rfl (by decide) rfl rfl (pa_cons (pe_op op_add (pe_op op_mul (pe_op op_sub (pe_call GR hr1 rfl gR FR.kp bR .nil pass0 (pa_cons (pv 0) (pa_cons pe_int pa_nil))) pe_int) (pv 1)) (pe_call GR hr1 rfl gR FR.kp bR .nil pass0 (pa_cons (pv 0) (pa_cons pe_int pa_nil)))) (pa_cons (pe_op op_add pe_int (pe_call GR hr1 rfl gR FR.kp bR .nil pass0 (pa_cons (pv 0) (pa_cons pe_int pa_nil)))) pa_nil)) (by rfl))
  (pss_cons (ps_set (i := 4) scanyf.nd rfl (Or.inl rfl) (pe_call GS hr1 rfl gS FS.kp bS .nil pass0 (pa_cons (pe_callB call_abs (by rfl) B.n_abs (by decide +kernel) (pa_cons (pv 2) pa_nil)) (pa_cons (pv 3) pa_nil))))
  (pss_one (ps_ret (pe_tup (pa_cons (pe_op op_fdiv (pv 2) (pv 4)) (pa_cons (pe_op op_fdiv (pv 3) (pv 4)) pa_nil)))))))), ?_⟩
  have p40 : CPow 10 40 := ⟨by decide, by decide, by decide⟩
  have p30 : CPow 10 30 := ⟨by decide, by decide, by decide⟩
  have big : CMulW ((10 : Int) ^ (40 : Int).toNat) ((10 : Int) ^ (30 : Int).toNat) := wide_mul (a := 200) (b := 200) (by decide +kernel) (by decide +kernel) (by decide) (by decide) (by decide)
  have M0 := Mv.refl hd
  refine ⟨_, rfl, _, _, rfl, rfl, p40, _, _, rfl, rfl, p40, _, _, rfl, rfl, p30, _, _, rfl, rfl, big, by show 5 ≤ sizeLine; decide, fun l nl => ?_⟩
  have M1 := M0.same (sm (o := .lst [.int 1, .int 1, .int 1, .int ((10 : Int) ^ (40 : Int).toNat), .int G70]) nl)
  refine ⟨d, l, [.int 1, .int 1, .int 1, .int ((10 : Int) ^ (40 : Int).toNat), .int G70], rfl, by show 0 < 5; decide, by show 5 < 1000000; decide, M1.dice, upd_same, M0.ne nl, fun gv H1 hg R1 => ?_⟩
  have M2 := M1.roll R1
  have gg : ∃ g : Int, gv = .int g ∧ g.natAbs < 2 ^ 240 := by
    simp only [List.mem_cons, List.not_mem_nil, or_false] at hg
    rcases hg with rfl | rfl | rfl | rfl | rfl
    · exact ⟨_, rfl, by decide +kernel⟩
    · exact ⟨_, rfl, by decide +kernel⟩
    · exact ⟨_, rfl, by decide +kernel⟩
    · exact ⟨_, rfl, by decide +kernel⟩
    · exact ⟨_, rfl, by decide +kernel⟩
  obtain ⟨g, rfl, hg2⟩ := gg
  refine ⟨_, rfl, d, 60, rfl, by decide, by decide, M2.dice, fun r1 H2 l1 R2 => ?_⟩
  have M3 := M2.roll R2
  refine ⟨_, _, rfl, rfl, _, rfl, _, _, rfl, rfl, .inl ⟨by omega, by omega⟩, _, rfl, d, 3, rfl, by decide, by decide, M3.dice, fun r2 H3 l2 R3 => ?_⟩
  have M4 := M3.roll R3
  refine ⟨_, _, rfl, rfl, _, rfl, d, 30, rfl, by decide, by decide, M4.dice, fun r3 H4 l3 R4 => ?_⟩
  have M5 := M4.roll R4
  refine ⟨_, _, rfl, rfl, _, _, rfl, ?_⟩
  have tb : ((((r1 : Nat) : Int) - 20) * g + ((r2 : Nat) : Int)).natAbs < 2 ^ 290 := by
    have e1 : ((((r1 : Nat) : Int) - 20) * g).natAbs < 2 ^ 7 * 2 ^ 240 := by
      rw [Int.natAbs_mul]
      exact Nat.mul_lt_mul'' (by omega) hg2
    have e2 : (2 : Nat) ^ 7 * 2 ^ 240 + 3 ≤ 2 ^ 290 := by decide +kernel
    omega
  obtain ⟨T, hT⟩ : ∃ T : Int, (((r1 : Nat) : Int) - 20) * g + ((r2 : Nat) : Int) = T := ⟨_, rfl⟩
  rw [hT] at tb
  have p950 : (2 : Nat) ^ 290 ≤ 2 ^ 950 := Nat.pow_le_pow_right (by decide) (by decide)
  have p300 : (2 : Nat) ^ 290 ≤ 2 ^ 300 := Nat.pow_le_pow_right (by decide) (by decide)
  have b950 : (100 : Nat) ≤ 2 ^ 950 := Nat.le_trans (by decide : 100 ≤ 2 ^ 7) (Nat.pow_le_pow_right (by decide) (by decide))
  have b300 : (100 : Nat) ≤ 2 ^ 300 := Nat.le_trans (by decide : 100 ≤ 2 ^ 7) (Nat.pow_le_pow_right (by decide) (by decide))
  refine ⟨_, rfl, _, rfl, _, rfl, T.natAbs, 1 + r3, ?_, by omega, by omega, fun H5 s5 => ?_⟩
  · show [V.int (if (((r1 : Nat) : Int) - 20) * g + ((r2 : Nat) : Int) < 0 then -((((r1 : Nat) : Int) - 20) * g + ((r2 : Nat) : Int)) else (((r1 : Nat) : Int) - 20) * g + ((r2 : Nat) : Int)), V.int (1 + ((r3 : Nat) : Int))] = [V.int (T.natAbs : Nat), V.int ((1 + r3 : Nat) : Int)]
    have e1 : (if T < 0 then -T else T) = ((T.natAbs : Nat) : Int) := by split <;> omega
    have e2 : ((1 + r3 : Nat) : Int) = 1 + ((r3 : Nat) : Int) := by omega
    rw [hT, e1, e2]
  have M6 := M5.same s5
  have g0 : 0 < Nat.gcd T.natAbs (1 + r3) := Nat.gcd_pos_of_pos_right _ (by omega)
  have g1 : Nat.gcd T.natAbs (1 + r3) ≤ 1 + r3 := Nat.gcd_le_right _ (by omega)
  have dT : ((Nat.gcd T.natAbs (1 + r3) : Nat) : Int) ∣ T := Int.ofNat_dvd_left.mpr (Nat.gcd_dvd_left _ _)
  have dB : ((Nat.gcd T.natAbs (1 + r3) : Nat) : Int) ∣ (1 + ((r3 : Nat) : Int)) := Int.ofNat_dvd_left.mpr (by
    have e : (1 + ((r3 : Nat) : Int)).natAbs = 1 + r3 := by omega
    rw [e]
    exact Nat.gcd_dvd_right _ _)
  have eT := div_exact g0 dT
  have eB := div_exact g0 dB
  have en : (1 + ((r3 : Nat) : Int)).natAbs = 1 + r3 := by omega
  rw [en] at eB
  have one : Nat.gcd (T / ((Nat.gcd T.natAbs (1 + r3) : Nat) : Int)).natAbs ((1 + ((r3 : Nat) : Int)) / ((Nat.gcd T.natAbs (1 + r3) : Nat) : Int)).natAbs = 1 := by
    rw [eT, eB, Nat.gcd_div (Nat.gcd_dvd_left _ _) (Nat.gcd_dvd_right _ _)]
    exact Nat.div_self g0
  have sT : (T / ((Nat.gcd T.natAbs (1 + r3) : Nat) : Int)).natAbs < 2 ^ 300 := by
    rw [eT]
    exact Nat.lt_of_le_of_lt (Nat.div_le_self _ _) (Nat.lt_of_lt_of_le tb p300)
  have sB : ((1 + ((r3 : Nat) : Int)) / ((Nat.gcd T.natAbs (1 + r3) : Nat) : Int)).natAbs < 2 ^ 300 := by
    rw [eB]
    have := Nat.div_le_self (1 + r3) (Nat.gcd T.natAbs (1 + r3))
    omega
  have lB : 1 ≤ (1 + ((r3 : Nat) : Int)) / ((Nat.gcd T.natAbs (1 + r3) : Nat) : Int) := by
    have h1 : 1 ≤ (1 + r3) / Nat.gcd T.natAbs (1 + r3) := (Nat.one_le_div_iff g0).mpr g1
    have h2 : 0 ≤ (1 + ((r3 : Nat) : Int)) / ((Nat.gcd T.natAbs (1 + r3) : Nat) : Int) := Int.ediv_nonneg (by omega) (by omega)
    omega
  have cd : CDiv T ((Nat.gcd T.natAbs (1 + r3) : Nat) : Int) := ⟨by omega, by omega⟩
  have cd2 : CDiv (1 + ((r3 : Nat) : Int)) ((Nat.gcd T.natAbs (1 + r3) : Nat) : Int) := ⟨by omega, by omega⟩
  subst hT
  refine ⟨_, rfl, _, rfl, _, _, rfl, rfl, cd, _, rfl, _, rfl, _, _, rfl, rfl, cd2, by show 2 ≤ sizeLine; decide, fun p np => ?_⟩
  exact q p _ _ _ (M6.same (sm np)) (SqT.of (off_at (M6.ne np).symm upd_same)) lB one sT sB
end
end VW
/-! K00L -/
set_option maxRecDepth 100000
set_option maxHeartbeats 4000000
namespace VW
open PySem L2 VK
abbrev sanyi : Stmt := topS 34
theorem scanyi : FnScope ["_law_dice_here", "_law_near", "_law_number"] ["_law_dice_here"] (defScope sanyi) := ⟨rfl, rfl, rfl, by decide +kernel, rfl, by decide +kernel, by decide +kernel⟩
abbrev snth : Stmt := topS 30
theorem scnth : FnScope ["_law_index", "_law_letters"] ["_law_index"] (defScope snth) := ⟨rfl, rfl, rfl, by decide +kernel, rfl, by decide +kernel, by decide +kernel⟩
abbrev swordA : Stmt := topS 33
abbrev NA : List Str := ["_law_dice_here", "_law_signs", "_law_turn"]
theorem scwordA : FnScope NA ["_law_dice_here"] (defScope swordA) := ⟨rfl, rfl, rfl, by decide +kernel, rfl, by decide +kernel, by decide +kernel⟩
def spAnyI : Sp := fun vs H Q _ => ∃ d : Addr, vs = [.ref d] ∧ Dice H d ∧ ∀ (i : Int) (H' : Hp), Mv d H H' → i.natAbs < 2 ^ 290 → Q (.int i) H'
def spLawNth : Sp := fun vs H Q _ => ∃ i : Int, vs = [.int i] ∧ 0 ≤ i ∧ i < 702 ∧ Q (.str (nthS i)) H
def spWord : Sp := fun vs H Q _ => ∃ d : Addr, vs = [.ref d] ∧ Dice H d ∧ ∀ (z : Str) (H' : Hp), Mv d H H' → z.length ≤ 10 → PyData.strOk z = true → Q (.str z) H'
/-- a text of one sign below 128 -/
def Sign (y : Str) : Prop := ∃ c, y = ⟨#[c]⟩ ∧ c < 128
theorem join_signs : ∀ ys : List Str, (∀ y ∈ ys, Sign y) → (TL.joinL [] (ys.map TL.tl)).length = ys.length ∧ ∀ c ∈ TL.joinL [] (ys.map TL.tl), c < 128
  | [], _ => ⟨rfl, fun c h => by cases h⟩
  | [y], h => by
    obtain ⟨c, rfl, hc⟩ := h y List.mem_cons_self
    refine ⟨rfl, fun x hx => ?_⟩
    have : x ∈ [c] := hx
    simp only [List.mem_singleton] at this
    omega
  | y :: z :: r, h => by
    obtain ⟨c, rfl, hc⟩ := h y List.mem_cons_self
    obtain ⟨i1, i2⟩ := join_signs (z :: r) fun x hx => h x (List.mem_cons_of_mem _ hx)
    have e : TL.joinL [] ((⟨#[c]⟩ :: z :: r).map TL.tl) = c :: TL.joinL [] ((z :: r).map TL.tl) := rfl
    rw [e]
    refine ⟨by rw [List.length_cons, i1]; rfl, fun x hx => ?_⟩
    rcases List.mem_cons.mp hx with rfl | hx
    · exact hc
    · exact i2 x hx
theorem joined {ys : List Str} (h : ∀ y ∈ ys, Sign y) : (Txt.join Str.empty ys).length = ys.length ∧ PyData.strOk (Txt.join Str.empty ys) = true := by
  obtain ⟨h1, h2⟩ := join_signs ys h
  have e : TL.tl (Txt.join Str.empty ys) = TL.joinL [] (ys.map TL.tl) := by
    rw [TL.join_eq, TL.tl_join]
    rfl
  rw [← e] at h1 h2
  refine ⟨h1, ?_⟩
  unfold PyData.strOk
  rw [← Array.all_toList, List.all_eq_true]
  intro c hc
  have := h2 c hc
  exact decide_eq_true (by omega)
theorem sum_signs : ∀ {ys : List Str}, (∀ y ∈ ys, Sign y) → (ys.map (·.length)).sum = ys.length
  | [], _ => rfl
  | y :: r, h => by
    obtain ⟨c, rfl, _⟩ := h y List.mem_cons_self
    rw [List.map_cons, List.sum_cons, sum_signs fun x hx => h x (List.mem_cons_of_mem _ hx), List.length_cons]
    exact Nat.add_comm 1 _
theorem Mv.new {H H' : Hp} {d D : Addr} (a : Mv d H H') (n : H' D = none) : Off d H D = none := by
  cases e : Off d H D with
  | none => rfl
  | some o =>
    have := a.at e
    rw [n] at this
    cases this
theorem Mv.set {H H' : Hp} {d D : Addr} {o : HO} (a : Mv d H H') (n : Off d H D = none) (ne : d ≠ D) : Mv d H (upd H' D o) := ⟨fun b u e => by
  have c : b ≠ D := fun z => by
    rw [z, n] at e
    cases e
  have hd : b ≠ d := fun z => by
    unfold Off at e
    rw [if_pos z] at e
    cases e
  exact off_at hd ((upd_ne c).trans (a.at e)), by
  obtain ⟨x, y, z, h⟩ := a.dice
  exact ⟨x, y, z, (upd_ne ne).trans h⟩⟩
section
variable {P : Program} {w : World} {K : PySem.W.Frag} {mg : Str → Option Value} {base : Heap} {CN fN CO : Addr}
theorem ok_lawnth {f : Addr} {fd : FuncData} (F : Fun K "_law_nth" "_law_nth" snth f fd) (B : Blt mg) : FnOk P w K mg base CX0 1 f fd ["_law_index"] spLawNth := by
  refine F.ok scnth (fun vs H Q E h => ?_) (fun cdv A outer s H vs Q E hr h => ?_)
  · obtain ⟨i, rfl, _⟩ := h
    rfl
  obtain ⟨i, rfl, h0, h7, q⟩ := h
  refine ⟨_, (pss_cons (ps_set (i := 1) scnth.nd rfl (Or.inl rfl) pe_str)
  (pss_one (ps_ret (pe_ifExp (pt_cmpR op_lt (pv 0) pe_int (nomark _)) (pe_item_str (pv 1) (pv 0) (fun _ _ => rfl)) (pe_op op_add_str (pe_item_str (pv 1) (pe_op op_sub (pe_op op_fdiv (pv 0) pe_int) pe_int) (fun _ _ => rfl)) (pe_item_str (pv 1) (pe_op op_mod (pe_callTy call_int1 (by rfl) B.n_int (by decide +kernel) (pa_cons (pv 0) pa_nil)) pe_int) (fun _ _ => rfl))))))), ?_⟩
  have len : LT.length = 26 := by decide +kernel
  refine ⟨_, rfl, _, _, rfl, rfl, _, rfl, ?_⟩
  refine ite2 (fun hc => ?_) (fun hc => ?_)
  · have l2 : i < 26 := of_decide_eq_true hc
    have en : nthS i = ltr i := if_pos l2
    rw [en] at q
    exact ⟨_, rfl, _, rfl, LT, _, _, rfl, rfl, h0, by omega, by rw [len]; omega, ltr_at h0 l2, q⟩
  · have l2 : ¬ i < 26 := by
      rw [decide_eq_true_eq] at hc
      exact hc
    have en : nthS i = ltr (i / 26 - 1) ++ ltr (i % 26) := if_neg l2
    rw [en] at q
    have d1 : 0 ≤ i / 26 - 1 := by omega
    have d2 : i / 26 - 1 < 26 := by omega
    have m1 : 0 ≤ i % 26 := by omega
    have m2 : i % 26 < 26 := by omega
    exact ⟨_, rfl, _, rfl, _, _, rfl, rfl, ⟨by decide, by decide⟩, _, _, rfl, rfl, LT, _, _, rfl, rfl, d1, by omega, by rw [len]; omega, ltr_at d1 d2, _, rfl, _, rfl, .inl ⟨_, rfl, _, _, rfl, rfl, (by show (0 : Int) < 26; decide), LT, _, _, rfl, rfl, m1, by omega, by rw [len]; omega, ltr_at m1 m2, _, _, rfl, rfl, by show (1 : Nat) + 1 ≤ sizeLine; decide, q⟩⟩
theorem ok_anyi {f fR fP : Addr} {fd fdR fdP : FuncData} (F : Fun K "_law_any_integer" "_law_any_integer" sanyi f fd)
    (FR : Fun K "_law_roll" "_law_roll" sroll fR fdR) (GR : FnOk P w K mg base CX0 1 fR fdR ["_law_dice_here", "_law_total"] spRoll) (gR : mg "_law_roll" = some (.ref fR)) (bR : Binds K fdR ["_law_dice_here", "_law_total"] [])
    (FP : Fun K "_law_pick" "_law_pick" spick fP fdP) (GP : FnOk P w K mg base CX0 2 fP fdP ["_law_dice_here", "_law_items"] spPick) (gP : mg "_law_pick" = some (.ref fP)) (bP : Binds K fdP ["_law_dice_here", "_law_items"] []) :
    FnOk P w K mg base CX0 3 f fd ["_law_dice_here"] spAnyI := by
  refine F.ok scanyi (fun vs H Q E h => ?_) (fun cdv A outer s H vs Q E hr h => ?_)
  · obtain ⟨d, rfl, _⟩ := h
    rfl
  obtain ⟨d, rfl, hd, q⟩ := h
  have hr1 : Room 1 _ := hr.mono (by decide)
  refine ⟨_, (pss_cons (ps_set (i := 1) scanyi.nd rfl (Or.inl rfl) (pe_call GP hr rfl gP FP.kp bP .nil pass0 (pa_cons (pv 0) (pa_cons (pe_lst (pa_cons pe_int (pa_cons pe_int (pa_cons pe_int (pa_cons (pe_op op_pow pe_int pe_int) (pa_cons (pe_op op_pow pe_int pe_int) (pa_cons (pe_op op_pow pe_int pe_int) (pa_cons (pe_op op_pow pe_int pe_int) (pa_cons (pe_op op_mulW (pe_op op_pow pe_int pe_int) (pe_op op_pow pe_int pe_int)) pa_nil))))))))) pa_nil))))
  (pss_cons (ps_set (i := 2) scanyi.nd rfl (Or.inl rfl) (pe_op op_sub (pe_op op_add (pv 1) (pe_call GR hr1 rfl gR FR.kp bR .nil pass0 (pa_cons (pv 0) (pa_cons pe_int pa_nil)))) pe_int))
  (pss_one (ps_ret (pe_ifExp (pt_cmpR op_eq (pe_call GR hr1 rfl gR FR.kp bR .nil pass0 (pa_cons (pv 0) (pa_cons pe_int pa_nil))) pe_int (nomark _)) (pe_un un_neg (pv 2)) (pv 2)))))), ?_⟩
  have c10 : ∀ j : Int, 0 ≤ j → j ≤ 1000 → CPow 10 j := fun j h1 h2 => ⟨h1, by omega, by decide⟩
  have big : CMulW ((10 : Int) ^ (50 : Int).toNat) ((10 : Int) ^ (30 : Int).toNat) := wide_mul (a := 200) (b := 200) (by decide +kernel) (by decide +kernel) (by decide) (by decide) (by decide)
  have M0 := Mv.refl hd
  refine ⟨_, rfl, _, _, rfl, rfl, c10 5 (by decide) (by decide), _, _, rfl, rfl, c10 59 (by decide) (by decide), _, _, rfl, rfl, c10 60 (by decide) (by decide), _, _, rfl, rfl, c10 60 (by decide) (by decide), _, _, rfl, rfl, c10 50 (by decide) (by decide), _, _, rfl, rfl, c10 30 (by decide) (by decide), _, _, rfl, rfl, big, by show 8 ≤ sizeLine; decide, fun l nl => ?_⟩
  have hl : ∃ xs : List V, xs = [.int 0, .int 1, .int 9, .int ((10 : Int) ^ (5 : Int).toNat), .int ((10 : Int) ^ (59 : Int).toNat), .int ((10 : Int) ^ (60 : Int).toNat), .int ((10 : Int) ^ (60 : Int).toNat), .int ((10 : Int) ^ (50 : Int).toNat * (10 : Int) ^ (30 : Int).toNat)] := ⟨_, rfl⟩
  obtain ⟨xs, ex⟩ := hl
  have M1 := M0.same (sm (o := .lst xs) nl)
  refine ⟨d, l, xs, rfl, by rw [ex]; show 0 < 8; decide, by rw [ex]; show 8 < 1000000; decide, ?_, ?_, M0.ne nl, fun gv H1 hg R1 => ?_⟩
  · rw [ex] at M1
    exact M1.dice
  · rw [ex]
    exact upd_same
  have M2 := M1.roll (by rw [ex]; exact R1)
  have gg : ∃ g : Int, gv = .int g ∧ g.natAbs < 2 ^ 280 := by
    rw [ex] at hg
    simp only [List.mem_cons, List.not_mem_nil, or_false] at hg
    rcases hg with rfl | rfl | rfl | rfl | rfl | rfl | rfl | rfl <;> exact ⟨_, rfl, by decide +kernel⟩
  obtain ⟨g, rfl, hg2⟩ := gg
  refine ⟨_, rfl, _, rfl, d, 5, rfl, by decide, by decide, M2.dice, fun r1 H2 l1 R2 => ?_⟩
  have M3 := M2.roll R2
  refine ⟨_, _, rfl, rfl, _, _, rfl, rfl, _, rfl, d, 3, rfl, by decide, by decide, M3.dice, fun r2 H3 l2 R3 => ?_⟩
  have M4 := M3.roll R3
  have e2 : (2 : Nat) ^ 280 + 10 ≤ 2 ^ 290 := by decide +kernel
  refine ⟨rfl, _, rfl, ?_⟩
  refine ite2 (fun _ => ?_) (fun _ => ?_)
  · exact ⟨_, rfl, _, rfl, q _ _ M4 (by show (-(g + ((r1 : Nat) : Int) - 2)).natAbs < _; omega)⟩
  · exact ⟨_, rfl, q _ _ M4 (by show (g + ((r1 : Nat) : Int) - 2).natAbs < _; omega)⟩
theorem ok_word {f fR : Addr} {fd fdR : FuncData} (F : Fun K "_law_any_word" "_law_any_word" swordA f fd)
    (FR : Fun K "_law_roll" "_law_roll" sroll fR fdR) (GR : FnOk P w K mg base CX0 1 fR fdR ["_law_dice_here", "_law_total"] spRoll) (gR : mg "_law_roll" = some (.ref fR)) (bR : Binds K fdR ["_law_dice_here", "_law_total"] []) (B : Blt mg) :
    FnOk P w K mg base CX0 2 f fd ["_law_dice_here"] spWord := by
  refine F.ok scwordA (fun vs H Q E h => ?_) (fun cdv A outer s H vs Q E hr h => ?_)
  · obtain ⟨d, rfl, _⟩ := h
    rfl
  obtain ⟨d, rfl, hd, q⟩ := h
  refine ⟨_, (pss_cons (ps_set (i := 1) scwordA.nd rfl (Or.inr rfl) (pe_ifExp (pt_cmpR op_gt (pe_call GR hr rfl gR FR.kp bR .nil pass0 (pa_cons (pv 0) (pa_cons pe_int pa_nil))) pe_int (nomark _)) pe_str pe_str))
  (pss_one (ps_ret (pe_join pe_str (pe_lc (own := [("_law_turn", 2)]) (g := gName 2) (tt := tYes) rfl scwordA.nd (pi_range1 rfl B.n_range (pa_cons (pe_call GR hr rfl gR FR.kp bR .nil pass0 (pa_cons (pv 0) (pa_cons pe_int pa_nil))) pa_nil)) (blkOk_by (N := NA) (sc := defScope swordA) (by decide +kernel)) (fun _ _ _ _ _ => pg_name (i := 2) scwordA.nd rfl (Or.inl rfl)) (fun _ _ _ _ _ => pts_nil) (fun _ _ _ _ _ => (pe_item_str (pv 1) (pe_call GR hr rfl gR FR.kp bR .nil pass0 (pa_cons (pv 0) (pa_cons (pe_callB call_len_str (by rfl) B.n_len (by decide +kernel) (pa_cons (pv 1) pa_nil)) pa_nil))) (fun _ _ => rfl)))))))), ?_⟩
  have M0 := Mv.refl hd
  refine ⟨_, rfl, d, 3, rfl, by decide, by decide, hd, fun r H1 l1 R1 => ?_⟩
  have M1 := M0.roll R1
  refine ⟨_, _, rfl, rfl, _, rfl, ?_⟩
  refine ite2 (fun _ => ?_) (fun _ => ?_)
  · have gS : 0 < ("abcxyzrimblak" : Str).length ∧ ("abcxyzrimblak" : Str).length < 100 ∧ ∀ c ∈ ("abcxyzrimblak" : Str).cps.toList, c < 128 := by decide +kernel
    obtain ⟨g1, g2, g3⟩ := gS
    refine ⟨⟨_, rfl⟩, _, rfl, d, 11, rfl, by decide, by decide, M1.dice, fun n H2 ln R2 => ?_⟩
    have M2 := M1.roll R2
    refine ⟨_, rfl, by omega, by omega, fun D hD => lc_range (lo := 0) (n := Int.toNat ((n : Nat) : Int)) (g := gName 2) (tt := tYes) (fun i H' => Mv d H H' ∧ ∃ ys : List Str, ys.length = i ∧ (∀ y ∈ ys, Sign y) ∧ H' D = some (.lst (ys.map V.str))) ⟨M2.same (sm hD), [], rfl, (fun y h => nomatch h), upd_same⟩ (fun i H' hi pv => ?_) (fun H' pv => ?_)⟩
    · obtain ⟨M, ys, hl, hs, hL⟩ := pv
      refine ⟨rfl, _, rfl, _, rfl, _, rfl, _, rfl, Nat.le_trans (Nat.le_of_lt g2) (by decide), d, ("abcxyzrimblak" : Str).length, rfl, g1, by omega, M.dice, fun r H3 lr R3 => ?_⟩
      have hr : r < ("abcxyzrimblak" : Str).cps.size := lr
      have hD3 : H3 D = some (.lst (ys.map V.str)) := by
        obtain ⟨x, y, z, rfl⟩ := R3
        exact (upd_ne (M2.ne hD).symm).trans hL
      refine ⟨_, _, _, rfl, rfl, by omega, by omega, by omega, Array.getElem?_eq_getElem hr, _, hD3, ?_, (M.roll R3).set (M2.new hD) (M2.ne hD), ys ++ [⟨#[("abcxyzrimblak" : Str).cps[r]]⟩], ?_, ?_, ?_⟩
      · rw [List.length_map]
        have : (11 : Nat) < sizeLine := by decide
        omega
      · rw [List.length_append, hl]
        rfl
      · intro y hy
        rcases List.mem_append.mp hy with hy | hy
        · exact hs y hy
        · rw [List.mem_singleton.mp hy]
          exact ⟨_, rfl, g3 _ (Array.mem_toList_iff.mpr (Array.getElem_mem hr))⟩
      · rw [List.map_append]
        exact upd_same
    · obtain ⟨M, ys, hl, hs, hL⟩ := pv
      obtain ⟨j1, j2⟩ := joined hs
      refine ⟨Str.empty, D, ys, rfl, rfl, .inl (SqL.of hL), ?_, q _ _ M (by omega) j2⟩
      have e : (ys.map (·.length)).sum ≤ 11 := by
        rw [sum_signs hs]
        omega
      show (ys.map (·.length)).sum + ys.length * 0 ≤ 16777216
      omega
  · have gS : 0 < ("abzAZ019 _-" : Str).length ∧ ("abzAZ019 _-" : Str).length < 100 ∧ ∀ c ∈ ("abzAZ019 _-" : Str).cps.toList, c < 128 := by decide +kernel
    obtain ⟨g1, g2, g3⟩ := gS
    refine ⟨⟨_, rfl⟩, _, rfl, d, 11, rfl, by decide, by decide, M1.dice, fun n H2 ln R2 => ?_⟩
    have M2 := M1.roll R2
    refine ⟨_, rfl, by omega, by omega, fun D hD => lc_range (lo := 0) (n := Int.toNat ((n : Nat) : Int)) (g := gName 2) (tt := tYes) (fun i H' => Mv d H H' ∧ ∃ ys : List Str, ys.length = i ∧ (∀ y ∈ ys, Sign y) ∧ H' D = some (.lst (ys.map V.str))) ⟨M2.same (sm hD), [], rfl, (fun y h => nomatch h), upd_same⟩ (fun i H' hi pv => ?_) (fun H' pv => ?_)⟩
    · obtain ⟨M, ys, hl, hs, hL⟩ := pv
      refine ⟨rfl, _, rfl, _, rfl, _, rfl, _, rfl, Nat.le_trans (Nat.le_of_lt g2) (by decide), d, ("abzAZ019 _-" : Str).length, rfl, g1, by omega, M.dice, fun r H3 lr R3 => ?_⟩
      have hr : r < ("abzAZ019 _-" : Str).cps.size := lr
      have hD3 : H3 D = some (.lst (ys.map V.str)) := by
        obtain ⟨x, y, z, rfl⟩ := R3
        exact (upd_ne (M2.ne hD).symm).trans hL
      refine ⟨_, _, _, rfl, rfl, by omega, by omega, by omega, Array.getElem?_eq_getElem hr, _, hD3, ?_, (M.roll R3).set (M2.new hD) (M2.ne hD), ys ++ [⟨#[("abzAZ019 _-" : Str).cps[r]]⟩], ?_, ?_, ?_⟩
      · rw [List.length_map]
        have : (11 : Nat) < sizeLine := by decide
        omega
      · rw [List.length_append, hl]
        rfl
      · intro y hy
        rcases List.mem_append.mp hy with hy | hy
        · exact hs y hy
        · rw [List.mem_singleton.mp hy]
          exact ⟨_, rfl, g3 _ (Array.mem_toList_iff.mpr (Array.getElem_mem hr))⟩
      · rw [List.map_append]
        exact upd_same
    · obtain ⟨M, ys, hl, hs, hL⟩ := pv
      obtain ⟨j1, j2⟩ := joined hs
      refine ⟨Str.empty, D, ys, rfl, rfl, .inl (SqL.of hL), ?_, q _ _ M (by omega) j2⟩
      have e : (ys.map (·.length)).sum ≤ 11 := by
        rw [sum_signs hs]
        omega
      show (ys.map (·.length)).sum + ys.length * 0 ≤ 16777216
      omega
end
end VW
/-! K00M -/
set_option maxRecDepth 100000
set_option maxHeartbeats 4000000
namespace VW
open PySem L2 VK
/-! ### lists of texts as data -/
theorem dpStrs {K : PySem.W.Frag} {H : Hp} : ∀ ts : List Str, DpAll K H (ts.map V.str) (ts.map PyData.str)
  | [] => .nil
  | t :: ts => .cons (.str t) (dpStrs ts)
theorem eqvStrs : ∀ ts : List Str, PyData.eqvAll (ts.map PyData.str) (ts.map PyData.str) = true
  | [] => by simp [PyData.eqvAll]
  | t :: ts => by simp [PyData.eqvAll, PyData.eqv, eqvStrs ts]
theorem eqvList (ts : List Str) : PyData.eqv (.list (ts.map PyData.str)) (.list (ts.map PyData.str)) = true := by
  simp only [PyData.eqv]
  exact eqvStrs ts
theorem shapedStrs (ts : List Str) (h : ∀ t ∈ ts, (PyData.str t).canLay0 = true) : SeqAt.shaped (.list (ts.map PyData.str)) = true := by
  have a : ∀ us : List Str, (∀ t ∈ us, (PyData.str t).canLay0 = true) → PyData.canLayAll0 (us.map PyData.str) = true := fun us => by
    induction us with
    | nil => intro _; simp [PyData.canLayAll0]
    | cons u us ih => intro h; simp [PyData.canLayAll0, h u List.mem_cons_self, ih fun t m => h t (List.mem_cons_of_mem _ m)]
  have d : ∀ us : List Str, PyData.depthAll (us.map PyData.str) ≤ 1 := fun us => by
    induction us with
    | nil => simp [PyData.depthAll]
    | cons u us ih => simp only [List.map_cons, PyData.depthAll, PyData.depth]; omega
  have z := d ts
  unfold SeqAt.shaped
  simp only [PyData.canLay0, PyData.depth, Bool.and_eq_true, decide_eq_true_eq]
  exact ⟨a ts h, decide_eq_true (by omega)⟩
abbrev slettered : Stmt := topS 32
abbrev NL : List Str := ["_law_value", "_law_sign"]
theorem sclettered : FnScope NL ["_law_value"] (defScope slettered) := ⟨rfl, rfl, rfl, by decide +kernel, rfl, by decide +kernel, by decide +kernel⟩
def spLettered : Sp := fun vs H Q _ => ∃ z : Str, vs = [.str z] ∧ z.length ≤ 1000 ∧ PyData.strOk z = true ∧ ∀ H', Same H H' → Q (.bl (nameS z)) H'
/-- the signs of z, below i, that are no letters -/
def odd (z : Str) (i : Nat) : List Str := ((z.cps.toList.take i).filter fun c => !letB c).map fun c => ⟨#[c]⟩
theorem odd_step {z : Str} {i c : Nat} (h : z.cps[i]? = some c) : odd z (i + 1) = odd z i ++ (if letB c = true then [] else [⟨#[c]⟩]) := by
  unfold odd
  rw [List.take_add_one, Array.getElem?_toList, h, Option.toList_some, List.filter_append, List.map_append]
  cases e : letB c with
  | true => simp [List.filter_cons, e]
  | false => simp [List.filter_cons, e]
theorem odd_len {z : Str} {i : Nat} : (odd z i).length ≤ i := by
  unfold odd
  rw [List.length_map]
  refine Nat.le_trans (List.length_filter_le _ _) ?_
  rw [List.length_take]
  omega
theorem odd_ok {z : Str} {i : Nat} (h : PyData.strOk z = true) : ∀ t ∈ odd z i, (PyData.str t).canLay0 = true := by
  intro t ht
  unfold odd at ht
  obtain ⟨c, hc, rfl⟩ := List.mem_map.mp ht
  have hm := List.mem_of_mem_take (List.mem_filter.mp hc).1
  unfold PyData.strOk at h
  rw [← Array.all_toList, List.all_eq_true] at h
  have := h c hm
  simp only [PyData.canLay0, PyData.strOk]
  simpa using this
theorem odd_all {z : Str} : ((odd z z.cps.size).isEmpty) = z.cps.toList.all fun c => decide (c ∈ ("abcdefghijklmnopqrstuvwxyz" : Str).cps.toList) := by
  unfold odd
  rw [show z.cps.size = z.cps.toList.length from rfl, List.take_length]
  have e : ∀ l : List Nat, ((l.filter fun c => !letB c).map fun c => (⟨#[c]⟩ : Str)).isEmpty = l.all letB := fun l => by
    induction l with
    | nil => rfl
    | cons c l ih =>
      rw [List.filter_cons, List.all_cons]
      cases letB c with
      | true =>
        rw [Bool.true_and, ← ih]
        rfl
      | false => rfl
  exact e _
theorem eqv_nil (ts : List Str) : PyData.eqv (.list (ts.map PyData.str)) (.list []) = ts.isEmpty := by
  cases ts with
  | nil => simp [PyData.eqv, PyData.eqvAll]
  | cons t ts => simp [PyData.eqv, PyData.eqvAll]
section
variable {P : Program} {w : World} {K : PySem.W.Frag} {mg : Str → Option Value} {base : Heap} {CN fN CO : Addr}
theorem ok_lettered {f : Addr} {fd : FuncData} (F : Fun K "_law_lettered" "_law_lettered" slettered f fd) (B : Blt mg) (T : Wd mg) : FnOk P w K mg base CX0 1 f fd ["_law_value"] spLettered := by
  refine F.ok sclettered (fun vs H Q E h => ?_) (fun cdv A outer s H vs Q E hr h => ?_)
  · obtain ⟨z, rfl, _⟩ := h
    rfl
  obtain ⟨z, rfl, hz, ok, q⟩ := h
  have hu : (A.deeper (PyProof.Rows.envOfC "_law_lettered" (defScope slettered) s.heap.objs.size f cdv)).units + 64 < cLine := hr.units
  refine ⟨_, (pss_cons (ps_if (PW.pt (pw_or (pt_not (pt_val (pe_callB call_isi (by rfl) B.n_isinstance (by decide +kernel) (pa_cons (pv 0) (pa_cons (pe_bltn (v := .ty "str") (by rfl) T.n_str (by decide +kernel) rfl) pa_nil))))) (pw_or1 (pt_not (pt_chain op_le op_le pe_int (pe_callB call_len_str (by rfl) B.n_len (by decide +kernel) (pa_cons (pv 0) pa_nil)) pe_int))))) (pss_one (ps_ret pe_bl)) pss_nil)
  (pss_one (ps_ret (pe_cmpR (op_eqD hu) (pe_lc (own := [("_law_sign", 1)]) (g := gName 1) rfl sclettered.nd (pi_str (pv 0)) (blkOk_by (N := NL) (sc := defScope slettered) (by decide +kernel)) (fun _ _ _ _ _ => pg_name (i := 1) sclettered.nd rfl (Or.inl rfl)) (fun _ _ _ _ _ => (pts_one (pt_cmpR op_notIn_sign (pv 1) pe_str rfl))) (fun _ _ _ _ _ => (pv 1))) (pe_lst pa_nil) (nomark _))))), ?_⟩
  have same := q H (Same.refl H)
  have ks : Kd K H (.str z) "str" := ⟨.base (.str z), by decide⟩
  have one : (1000 : Nat) ≤ sizeLine := by decide
  refine ⟨_, rfl, _, _, _, _, _, rfl, .ty _, ks.1, ks.isStr, _, rfl, ?_⟩
  refine ite2 (fun hc => absurd hc (by show ¬ (!true) = true; decide)) (fun _ => ?_)
  refine ⟨_, rfl, _, rfl, Nat.le_trans hz one, _, _, rfl, rfl, _, rfl, ?_⟩
  refine ite2 (fun h1 => ?_) (fun h1 => ?_)
  · refine ⟨_, _, rfl, rfl, _, rfl, ?_⟩
    refine ite2 (fun h2 => ?_) (fun h2 => ?_)
    · have e : nameS z = false := nameS_long (by
        rw [Bool.not_eq_true', decide_eq_false_iff_not] at h2
        omega)
      rw [e] at same
      exact same
    · have l8 : z.length ≤ 8 := by
        rw [Bool.not_eq_true', decide_eq_false_iff_not, Classical.not_not] at h2
        omega
      have l1 : 1 ≤ z.length := by
        have := of_decide_eq_true h1
        omega
      refine ⟨_, rfl, _, rfl, fun D hD => lc_it walk_str (fun i H' => H' = upd H D (.lst ((odd z i).map V.str))) rfl (fun _ _ _ _ => trivial) (fun i x H' H'' hi e y => ?_) (fun H' e => ?_)⟩
      · subst e
        obtain ⟨rfl, cc, hc, rfl⟩ := y
        refine ⟨rfl, _, rfl, cc, _, rfl, rfl, _, rfl, ?_⟩
        have st := odd_step hc
        refine ite2 (fun hk => ?_) (fun hk => ?_)
        · have hl : letB cc = false := by
            rw [Bool.not_eq_true'] at hk
            exact hk
          rw [hl] at st
          refine ⟨_, rfl, _, upd_same, ?_, ?_⟩
          · rw [List.length_map]
            have := odd_len (z := z) (i := i)
            have : z.cps.size = z.length := rfl
            omega
          · rw [upd_upd, st, List.map_append]
            rfl
        · have hl : letB cc = true := by
            rw [Bool.not_eq_true', Bool.not_eq_false] at hk
            exact hk
          rw [hl] at st
          rw [st]
          simp
      · subst e
        refine ⟨by show 0 ≤ sizeLine; decide, fun D2 hD2 => ?_⟩
        refine ⟨_, .list [], Dp.lst (SqL.of (sm hD2 _ _ upd_same)) (dpStrs _), Dp.lst (SqL.of upd_same) .nil, shapedStrs _ (odd_ok ok), by decide +kernel, ?_⟩
        rw [eqv_nil, odd_all]
        have e2 : nameS z = z.cps.toList.all fun c => decide (c ∈ ("abcdefghijklmnopqrstuvwxyz" : Str).cps.toList) := by
          unfold nameS
          rw [decide_eq_true l1, decide_eq_true l8, Bool.true_and, Bool.true_and]
        have qq := q _ ((sm (o := .lst ((odd z z.cps.size).map V.str)) hD).trans (sm (o := .lst []) hD2))
        rw [e2] at qq
        exact qq
  · have e : nameS z = false := nameS_short (by
      rw [decide_eq_true_eq] at h1
      omega)
    rw [e] at same
    exact ⟨_, rfl, same⟩
end
end VW
/-! K00N -/
set_option maxRecDepth 100000
set_option maxHeartbeats 4000000
namespace VW
open PySem PySem.Spec PyProof.Rows L2 VK LamX
abbrev serr : Stmt := topS 31
abbrev NE : List Str := ["_law_call", "e"]
theorem scerr : FnScope NE ["_law_call"] (defScope serr) := ⟨rfl, rfl, rfl, by decide +kernel, rfl, by decide +kernel, by decide +kernel⟩
/-- a name's slot, told only of stores that are as long as the names -/
def tVarL (n i : Nat) : TE := fun σ H Q => ∃ v, (σ.length = n → σ[i]? = some (some v)) ∧ Q v H
theorem pvL (n i : Nat) {X : Cx} {x : Str} {pos : Pos} (hN : X.N[i]? = some x := by rfl) (hv : Vis X.env.scope x := by exact Or.inl rfl) (hd : (x == ("__debug__" : Str)) = false := by decide) (hcd : (x == ("__classdict__" : Str)) = false := by decide) (hn : X.N.length = n := by rfl) : PE X (.Name x pos) (tVarL n i) := by
  refine ⟨fun pins s σ H Q I h => ?_⟩
  obtain ⟨v, hl, q⟩ := h
  exact (pe_var hN hv hd hcd).run pins s σ H Q I ⟨v, hl (I.len.trans hn), q⟩
theorem call_reprS {X : Cx} {a : Addr} {pn : List (Addr × Obj)} (hg : X.A.guards = some []) (hu : X.A.units + 64 < cLine) : CallR (X.suite a pn) (.builtin "repr") (rRepr X.K) := call_reprD (X := X.suite a pn) hg hu
/-- what the law's error tells of a call -/
def TTerr (K : PySem.W.Frag) (CN CO : Addr) : (XK → Hp → VK → Prop) → Hp → VK → Prop := fun tl H Q =>
  tl (fun cls d H' => (cls = .ref CN ∧ ∃ (dd : Addr) (v : V) (D : PyData), d = some dd ∧ H' dd = some (.xd [("value", v)]) ∧ DR K H' v D ∧ D.showable = true ∧ D.depth ≤ 60 ∧ D.shown.length ≤ 900 ∧ Q (.str ("number " ++ D.shown)) H') ∨ (cls = .ref CO ∧ Q (.str "operation") H')) H fun _ H' => Q (.str "fine") H'
/-- the facts of the two classes in a try -/
structure Ex (K : PySem.W.Frag) (CN CO : Addr) : Prop where
  nn : PySem.W.exmOne K (.ref CN) (.ref CN) = some true
  on : PySem.W.exmOne K (.ref CO) (.ref CN) = some false
  oo : PySem.W.exmOne K (.ref CO) (.ref CO) = some true
theorem error_gives {X : Cx} {g CN fN CO : Addr} {cdg : Value} {q : Str} (hg : X.A.guards = some []) {k : Nat} (hr : Room (k + 1) X.A) (B : Blt X.mg) (Z : Er X.K X.mg CN fN CO) (Y : Ex X.K CN CO) :
    GivesTo X NE "_law_error" (defScope serr) g cdg (defBody serr) "_law_call" q (TTerr X.K CN CO) := by
  intro f c' s H Q tl act hc h
  have x1 : XfC X.K CN := ⟨Z.num.ga, Z.num.gg, Z.num.exC, Z.num.hdC⟩
  have hgd : (cxOf C8.CX0 X.prog X.w X.K X.mg X.base NE "_law_error" (defScope serr) g cdg X.A X.stack s H C8.E0).A.guards = some [] := hg
  have hu : (cxOf C8.CX0 X.prog X.w X.K X.mg X.base NE "_law_error" (defScope serr) g cdg X.A X.stack s H C8.E0).A.units + 64 < cLine := (hr.deeper _).units
  refine ⟨_, pss_cons (ps_try_cl (X := (cxOf C8.CX0 X.prog X.w X.K X.mg X.base NE "_law_error" (defScope serr) g cdg X.A X.stack s H C8.E0).nox) (l := [⟨.ref CN, some 1, _⟩, ⟨.ref CO, none, _⟩])
      (tb := fun W D σ H => ∃ Ech : XK, (∀ cls d σ' H', Ech cls d H' → W cls d σ' H') ∧ σ[0]? = some (some (.ref f)) ∧ H c' = some (CodeO c' q) ∧ tl Ech H fun _ H' => D.nx σ H')
      rfl rfl LamX.takes0 (fun W pn xe tk _ => ?_)
      (.as scerr.nd rfl rfl ⟨rfl, rfl, .inl Z.num.gC⟩ (fun a oe cls d pn hz hf => pss_one (ps_ret (pe_op op_add_str pe_str (pe_callB (call_reprS hgd hu) (by rfl) B.n_repr (by decide +kernel) (pa_cons (pe_xf x1 Z.num.noN hz hf (pvL 2 1)) pa_nil)))))
      (.plain ⟨rfl, rfl, .inl Z.og⟩ (fun a oe cls d pn hz hf => pss_one (ps_ret pe_str)) .nil)))
    (pss_one (ps_ret pe_str)), ?_⟩
  · refine ⟨fun pins s' σ H' D I h' => ?_⟩
    obtain ⟨Ech, hW, h1, h2, h3⟩ := h'
    exact (pss_one (ps_expr (act W pn xe Ech _ _ tk hW))).run pins s' σ H' D I ⟨h1, h2, h3⟩
  · refine ⟨_, fun cls d σ' H' he => ?_, rfl, hc, h⟩
    rcases he with ⟨rfl, dd, v, D, rfl, hx, hd, sh, dp, sz, qq⟩ | ⟨rfl, qq⟩
    · refine ⟨true, Y.nn, fun _ a ha => ?_, fun z => nomatch z⟩
      have b1 : (7 : Nat) + D.shown.length ≤ sizeLine := Nat.le_trans (Nat.add_le_add_left sz 7) (by decide)
      have b2 : D.shown.length ≤ sizeLine := Nat.le_trans sz (by decide)
      refine ⟨.ref a, fun hl => ?_, rfl, rfl, dd, _, v, rfl, hx, by simp [List.lookup], v, D, rfl, hd, sh, dp, b2, _, _, rfl, rfl, b1, qq⟩
      have h2 : 1 < σ'.length := by
        have : (σ'.set 1 (some (V.ref a))).length = 2 := hl
        rw [List.length_set] at this
        omega
      exact List.getElem?_set_self h2
    · exact ⟨false, Y.on, (fun z => nomatch z), fun _ => ⟨true, Y.oo, fun _ a _ => qq, fun z => nomatch z⟩⟩
end VW
/-! K00O -/
set_option maxRecDepth 100000
set_option maxHeartbeats 4000000
namespace VW
open PySem PySem.Spec PyProof.Rows L2 VK LamX
/-- the def st stands at f, its code object at c -/
structure FunC (K : PySem.W.Frag) (x qual : Str) (st : Stmt) (f : Addr) (fd : FuncData) (c : Addr) : Prop where
  ex : ∃ (oc : Value) (od : Option Addr) (kV doc pm : Value) (an : Option Addr) (ct : Value) (osl : Array (Option Value)),
    fd = PySem.W.fnOf x qual (defArgs st) (defBody st) (defScope st) .none kV doc pm an (.ref c) ct ∧ K.lookup f = some ⟨oc, od, .func fd, osl⟩ ∧ PySem.W.codeIn K (.ref c) qual = true
  kp : PySem.W.keepIn K (.ref f) = true
section
variable {P : Program} {w : World} {K : PySem.W.Frag} {mg : Str → Option Value} {base : Heap} {k : Nat} {f : Addr} {fd : FuncData} {ps : List Str} {sp : Sp}
/-- as okG, the def's code object known -/
theorem FunC.okG {x qual : Str} {st : Stmt} {N : List Str} {c : Addr} (F : FunC K x qual st f fd c) (S : FnScope N ps (defScope st)) (len : ∀ vs H Q E, sp vs H Q E → vs.length = ps.length)
    (hbody : ∀ (A : Around) (outer : List Env) (s : Shared) (H : Hp) (vs : List V) (Q : VK) (E : XK),
      (cxOf CX0 P w K mg base N qual (defScope st) f (.ref c) A outer s H E).A.guards = some [] → Room k (A.deeper (envOfC qual (defScope st) s.heap.objs.size f (.ref c))) → sp vs H Q E →
      ∃ t, PSs (cxOf CX0 P w K mg base N qual (defScope st) f (.ref c) A outer s H E) (defBody st) t ∧ t { nx := fun _ H' => Q .non H', rt := Q } (start N vs) H) :
    FnG P w K mg base CX0 (k + 1) f fd ps sp := by
  obtain ⟨oc, od, kV, doc, pm, an, ct, osl, rfl, lk, hcd⟩ := F.ex
  refine ⟨len, fun A outer s H args us vs Q E hg hr e0 hb r hsp => ?_⟩
  have KX := e0.mod.kin.keeps fun b o e => (e0.bs b o e).1
  have lim := e0.mod.nolimit.keeps fun b o e => (e0.bs b o e).1
  refine codeAny_call_function hr.depth (KX _ _ lk) rfl S.co S.gen rfl (PySem.W.codeRec_of KX hcd) (hb _ _ _ _ ?_)
  refine wpAny_newFunctionEnv_cells S.kind (fun ⟨n, v⟩ hy => ?_) fun env he s1 x => ?_
  · rcases S.par n (List.of_mem_zip hy).1 with q | q
    · exact .inl q
    · exact .inr ⟨q, PySem.W.cellsFrom_some _ _ _ (.inl q)⟩
  · subst he
    obtain ⟨t, ht, hq⟩ := hbody A outer s H vs Q E hg (hr.deeper _) hsp
    refine ⟨lim.keeps x.toInCall.keep, codeAny_func (wpAny_mono (ht.run [] s1 _ H _ (inv_start S hr.hd e0 (len _ _ _ _ hsp) r x) hq) (fun fl s' hs => ?_) fun e s' hs => hs)⟩
    cases fl with
    | ret u =>
      obtain ⟨v, σ', H', J, rv, q⟩ := hs
      exact ⟨v, H', J.os, J.bare, J.base, J.hok, rv, q⟩
    | next =>
      obtain ⟨σ', H', J, q⟩ := hs
      exact ⟨.non, H', J.os, J.bare, J.base, J.hok, rfl, q⟩
    | brk =>
      obtain ⟨_, _, _, q⟩ := hs
      exact q.elim
    | cont =>
      obtain ⟨_, _, _, q⟩ := hs
      exact q.elim
end
/-! ### what stays where tables of code objects may grow -/
section
variable {K : PySem.W.Frag} {H H' H'' : Hp} {d : Addr}
theorem extN_seq {a : Addr} {xs : List V} (e : ExtN H H') (h : SqL K H a xs) : SqL K H' a xs := by
  rcases h with (h | ⟨o, h⟩) | h
  · exact .inl (.inl (e _ _ h fun ps z => nomatch z))
  · exact .inl (.inr ⟨o, e _ _ h fun ps z => nomatch z⟩)
  · exact .inr h
theorem extN_tup {a : Addr} {xs : List V} (e : ExtN H H') (h : SqT K H a xs) : SqT K H' a xs := by
  rcases h with (h | ⟨o, h⟩) | h
  · exact .inl (.inl (e _ _ h fun ps z => nomatch z))
  · exact .inl (.inr ⟨o, e _ _ h fun ps z => nomatch z⟩)
  · exact .inr h
mutual
theorem drN (e : ExtN H H') : ∀ {v : V} {D : PyData}, DR K H v D → DR K H' v D
  | _, _, .non => .non
  | _, _, .bl b => .bl b
  | _, _, .int i => .int i
  | _, _, .str x => .str x
  | _, _, .lst h r => .lst (extN_seq e h) (drsN e r)
  | _, _, .tup h r => .tup (extN_tup e h) (drsN e r)
  | _, _, .dic h r => .dic (e _ _ h fun ps z => nomatch z) (drsN e r)
theorem drsN (e : ExtN H H') : ∀ {vs : List V} {ds : List PyData}, DRs K H vs ds → DRs K H' vs ds
  | _, _, .nil => .nil
  | _, _, .cons h r => .cons (drN e h) (drsN e r)
end
/-- the kind of a datum -/
def kindD : PyData → String
  | .none => "NoneType"
  | .bool _ => "bool"
  | .int _ => "int"
  | .str _ => "str"
  | .list _ => "list"
  | .tuple _ => "tuple"
  | .dict _ => "dict"
theorem dr_kind {v : V} {D : PyData} (h : DR K H v D) : Kd K H v (kindD D) := by
  cases h with
  | non => exact ⟨.base .non, by show "NoneType" ∈ kinds; decide⟩
  | bl b => exact ⟨.base (.bl b), by show "bool" ∈ kinds; decide⟩
  | int i => exact ⟨.base (.int i), by show "int" ∈ kinds; decide⟩
  | str x => exact ⟨.base (.str x), by show "str" ∈ kinds; decide⟩
  | lst h r =>
    refine ⟨?_, by show "list" ∈ kinds; decide⟩
    rcases h with (h | ⟨o, h⟩) | h
    · exact .base (.lst h)
    · exact .base (.frz h)
    · obtain ⟨_, _, _, e, c, _⟩ := h
      exact .kList e c
  | tup h r => exact ⟨tyX_tup h, by show "tuple" ∈ kinds; decide⟩
  | dic h r => exact ⟨.base (.dK h), by show "dict" ∈ kinds; decide⟩
/-- is_fraction, asked of a datum -/
def fracD : PyData → Bool
  | .tuple [.int t, .int m] => decide (m ≥ 1) && decide (Nat.gcd t.natAbs m.natAbs = 1)
  | _ => false
end
/-- the dice rolled on, new objects laid, the tables of T grown, all else as it was -/
structure Mt (T : List (Addr × Str)) (d : Addr) (H H' : Hp) : Prop where
  off : ExtN (Off d H) (Off d H')
  dice : Dice H' d
  tabs : Tabs T H'
end VW
/-! K00P -/
set_option maxRecDepth 100000
set_option maxHeartbeats 1000000
namespace VW
open PySem PySem.Spec PyProof.Rows L2 VK LamX
section
variable {K : PySem.W.Frag} {T : List (Addr × Str)} {H H' H'' : Hp} {d : Addr}
theorem off_ext (s : Same H H') : ExtN (Off d H) (Off d H') := fun b o e _ => off_same s b o e
theorem tyX_ext {v : V} {t : Value} (e : ExtN H H') (h : TyX K H v t) : TyX K H' v t := by
  cases h with
  | base h =>
    refine .base ?_
    cases h with
    | non => exact .non
    | bl => exact .bl _
    | int => exact .int _
    | str => exact .str _
    | flt => exact .flt _
    | lst h => exact .lst (e _ _ h fun ps z => nomatch z)
    | frz h => exact .frz (e _ _ h fun ps z => nomatch z)
    | tup h => exact .tup (e _ _ h fun ps z => nomatch z)
    | dK h => exact .dK (e _ _ h fun ps z => nomatch z)
    | dT h => exact .dT (e _ _ h fun ps z => nomatch z)
    | ins h a b c d f => exact .ins (e _ _ h fun ps z => nomatch z) a b c d f
  | byt => exact .byt _
  | set h => exact .set (e _ _ h fun ps z => nomatch z)
  | kList h c => exact .kList h c
  | kTuple h c => exact .kTuple h c
  | kDict h c => exact .kDict h c
  | fTuple h => exact .fTuple (e _ _ h fun ps z => nomatch z)
  | fDict h => exact .fDict (e _ _ h fun ps z => nomatch z)
theorem kd_ext {v : V} {n : String} (e : ExtN H H') (k : Kd K H v n) : Kd K H' v n := ⟨tyX_ext e k.1, k.2⟩
theorem frac_ext {v : V} {b : Bool} (e : ExtN H H') (f : FracV K H v b) : FracV K H' v b := by
  obtain ⟨n, k, o⟩ := f
  refine ⟨n, kd_ext e k, ?_⟩
  rcases o with o | ⟨o, p, xs, hv, ht, o2⟩
  · exact .inl o
  · refine .inr ⟨o, p, xs, hv, extN_tup e ht, ?_⟩
    rcases o2 with o2 | ⟨x, y, m, m', e1, k1, k2, e2⟩
    · exact .inl o2
    · exact .inr ⟨x, y, m, m', e1, kd_ext e k1, kd_ext e k2, e2⟩
theorem off_incl : ExtN (Off d H) H := fun b o e _ => off_in b o e
theorem Mt.refl (h : Dice H d) (t : Tabs T H) : Mt T d H H := ⟨ExtN.refl _, h, t⟩
theorem Mt.trans (a : Mt T d H H') (b : Mt T d H' H'') : Mt T d H H'' := ⟨a.off.trans b.off, b.dice, b.tabs⟩
theorem Mt.same (a : Mt T d H H') (s : Same H' H'') : Mt T d H H'' := ⟨a.off.trans (off_ext s), by
  obtain ⟨x, y, z, h⟩ := a.dice
  exact ⟨x, y, z, s _ _ h⟩, a.tabs.ext s⟩
/-- a table is not where the dice are -/
theorem tab_ne (h : Dice H d) {P : Addr} {q : Str} (t : TabS H P q) : P ≠ d := fun z => by
  obtain ⟨x, y, w, hd⟩ := h
  obtain ⟨ps, hp, _⟩ := t
  rw [z, hd] at hp
  cases hp
theorem Mt.move (a : Mt T d H H') (m : Mv d H' H'') : Mt T d H H'' := ⟨a.off.trans fun b o e _ => m.off b o e, m.dice, fun p hp => by
  have t := a.tabs p hp
  have n := tab_ne a.dice t
  obtain ⟨ps, h1, h2, h3⟩ := t
  refine ⟨ps, m.at (off_at n h1), h2, fun pos cv hc => ?_⟩
  obtain ⟨c, e1, e2⟩ := h3 pos cv hc
  refine ⟨c, e1, m.at (off_at (fun z => ?_) e2)⟩
  obtain ⟨x, y, w, hd⟩ := a.dice
  rw [z, hd] at e2
  cases e2⟩
/-- behind a lambda's making -/
theorem Mt.lam (a : Mt T d H H') (e : ExtN H' H'') (t : Tabs T H'') : Mt T d H H'' := by
  obtain ⟨x, y, z, hd⟩ := a.dice
  refine ⟨a.off.trans fun b o h n => ?_, ⟨x, y, z, e _ _ hd fun ps z => nomatch z⟩, t⟩
  by_cases c : b = d
  · unfold Off at h
    rw [if_pos c] at h
    cases h
  · exact off_at c (e _ _ (off_in _ _ h) n)
end
end VW
/-! K00Q -/
set_option maxRecDepth 100000
set_option maxHeartbeats 1000000
namespace VW
open PySem PySem.Spec PyProof.Rows L2 VK LamX
abbrev srefused : Stmt := topS 42
abbrev NRF : List Str := ["_law_dice_here", "_law_told", "_law_bad", "_law_one"]
theorem screfused : FnScope NRF ["_law_dice_here"] (defScope srefused) := ⟨rfl, rfl, rfl, by decide +kernel, rfl, by decide +kernel, by decide +kernel⟩
/-- error(lambda: e): what a def that holds the code object at c may do -/
theorem pe_err {X : Cx} {T : List (Addr × Str)} {g c P CN fN CO : Addr} {fdE : FuncData} {params : Arguments} {body : Expr} {scope : Scope} {t : XK → TE} {p lpos pos : Pos} (hgd : X.A.guards = some []) (hg : Gl X "_law_error") (hm : X.mg "_law_error" = some (.ref g)) (FE : Fun X.K "_law_error" "_law_error" serr g fdE) (bE : L2.Binds X.K fdE ["_law_call"] [])
    (B : Blt X.mg) (Z : Er X.K X.mg CN fN CO) (Y : Ex X.K CN CO) (TB : TabB X.base X.mg c P) (hcode : X.env.code = .ref c) (hmT : (P, X.env.qual ++ "<lambda>") ∈ T) (hu : ∀ p ∈ T, p.1 = P → p.2 = X.env.qual ++ "<lambda>") (hr : Room 6 X.A) (L : LamS X.env.scope scope) (hdef : defaultsOf params X.env = ([], []))
    (hbind : ∀ (q : Str) (cl : List (Str × Addr)) (pm cv ctv : Value), bindArgs (PySem.W.kla_fn "<lambda>" q params body scope cl pm cv ctv) ⟨[], []⟩ = pure [])
    (hbody : ∀ (A : Around) (outer : List Env) (s : Shared) (H : Hp) (E : XK) (f c' : Addr), Room 4 (A.deeper (lamEnv X scope s.heap.objs.size f c')) → PE (lamCx X A outer s H E scope f c') body (t E)) :
    PE X (.Call (.Name "_law_error" p) [.Lambda params body scope lpos] [] pos) (tLam T (TTerr X.K CN CO) t) := by
  obtain ⟨oc, od, kV, doc, pm, an, cdv, ct, osl, efd, lk, hcg⟩ := FE.ex
  subst efd
  exact pe_lamcall hg hm FE.kp lk hcg bE scerr rfl (Or.inl rfl) (error_gives hgd (hr.mono (by decide) : Room (4 + 1) X.A) B Z Y) TB hcode hmT hu hr L hdef hbind hbody
end VW
/-! K00R -/
set_option maxRecDepth 100000
set_option maxHeartbeats 1000000
namespace VW
open PySem PySem.Spec PyProof.Rows L2 VK LamX
theorem Mt.new {T : List (Addr × Str)} {H H' : Hp} {d L : Addr} (a : Mt T d H H') (n : H' L = none) : Off d H L = none ∨ ∃ ps, Off d H L = some (.tbl ps) := by
  cases e : Off d H L with
  | none => exact .inl rfl
  | some o =>
    by_cases c : ∃ ps, o = .tbl ps
    · obtain ⟨ps, rfl⟩ := c
      exact .inr ⟨ps, rfl⟩
    · have := off_in _ _ (a.off _ _ e fun ps z => c ⟨ps, z⟩)
      rw [n] at this
      cases this
theorem Mt.set {T : List (Addr × Str)} {H H' : Hp} {d L : Addr} {xs : List V} {o : HO} (a : Mt T d H H') (n : Off d H L = none ∨ ∃ ps, Off d H L = some (.tbl ps)) (ne : d ≠ L) (hl : H' L = some (.lst xs)) : Mt T d H (upd H' L o) := by
  obtain ⟨x, y, z, hd⟩ := a.dice
  refine ⟨fun b u e nt => ?_, ⟨x, y, z, (upd_ne ne).trans hd⟩, fun p hp => ?_⟩
  · have c : b ≠ L := fun w => by
      rw [w] at e
      rcases n with n | ⟨ps, n⟩
      · rw [n] at e
        cases e
      · rw [n] at e
        cases e
        exact nt ps rfl
    have hb : b ≠ d := fun w => by
      unfold Off at e
      rw [if_pos w] at e
      cases e
    exact off_at hb ((upd_ne c).trans (off_in _ _ (a.off _ _ e nt)))
  · obtain ⟨ps, h1, h2, h3⟩ := a.tabs p hp
    refine ⟨ps, (upd_ne fun w => ?_).trans h1, h2, fun pos cv hc => ?_⟩
    · rw [w, hl] at h1
      cases h1
    · obtain ⟨c, e1, e2⟩ := h3 pos cv hc
      refine ⟨c, e1, (upd_ne fun w => ?_).trans e2⟩
      rw [w, hl] at e2
      cases e2
/-- a value that is no fraction, and its text -/
structure BadF (K : PySem.W.Frag) (H : Hp) (v : V) (D : PyData) : Prop where
  dr : DR K H v D
  sh : D.showable = true
  dp : D.depth ≤ 60
  sz : D.shown.length ≤ 900
  fr : FracV K H v false
theorem BadF.ext {K : PySem.W.Frag} {H H' : Hp} {v : V} {D : PyData} (b : BadF K H v D) (e : ExtN H H') : BadF K H' v D := ⟨drN e b.dr, b.sh, b.dp, b.sz, frac_ext e b.fr⟩
/-- where a call raised InvalidNumber of v -/
theorem num_told {K : PySem.W.Frag} {T : List (Addr × Str)} {CN : Addr} {d : Addr} {Hb H1 : Hp} {v : V} {D : PyData} {E : XK} (M : Mt T d Hb H1) (b : BadF K (Off d Hb) v D) (cont : ∀ dd H', Mt T d Hb H' → Same H1 H' → H' dd = some (.xd [("value", v)]) → DR K H' v D → E (.ref CN) (some dd) H') : NumE CN v H1 E :=
  fun dd H' s hx _ => cont dd H' (M.same s) s hx (drN ((M.same s).off.trans off_incl) b.dr)
abbrev badsV (t0 t1 t2 t3 l4 d5 t6 t7 : Addr) : List V := [.non, .int 0, .int 1, .bl true, .str "1", .ref t0, .ref t1, .ref t2, .ref t3, .ref l4, .ref d5, .ref t6, .ref t7]
theorem kd_bl {K : PySem.W.Frag} {H : Hp} (b : Bool) : Kd K H (.bl b) "bool" := ⟨.base (.bl b), by decide⟩
theorem bad_pair {K : PySem.W.Frag} {H : Hp} {t : Addr} {x y : Int} (h : H t = some (.tup [.int x, .int y])) (hf : fracB (.int x) (.int y) = false) (hs : (PyData.tuple [.int x, .int y]).showable = true ∧ (PyData.tuple [.int x, .int y]).depth ≤ 60 ∧ (PyData.tuple [.int x, .int y]).shown.length ≤ 900) : ∃ D, BadF K H (.ref t) D :=
  ⟨.tuple [.int x, .int y], .tup (SqT.of h) (.cons (.int x) (.cons (.int y) .nil)), hs.1, hs.2.1, hs.2.2, "tuple", ⟨.base (.tup h), by decide⟩, .inr ⟨rfl, t, _, rfl, SqT.of h, .inr ⟨_, _, "int", "int", rfl, kd_int, kd_int, hf.symm⟩⟩⟩
theorem bads {K : PySem.W.Frag} {H : Hp} {t0 t1 t2 t3 l4 d5 t6 t7 : Addr} (h0 : H t0 = some (.tup [.int 2, .int 4])) (h1 : H t1 = some (.tup [.int 1, .int 0])) (h2 : H t2 = some (.tup [.int 1, .int (-2)])) (h3 : H t3 = some (.tup [.int 1])) (h4 : H l4 = some (.lst [.int 1, .int 2])) (h5 : H d5 = some (.dK []))
    (h6 : H t6 = some (.tup [.int 1, .bl true])) (h7 : H t7 = some (.tup [.int 0, .int 2])) : ∀ v ∈ badsV t0 t1 t2 t3 l4 d5 t6 t7, ∃ D, BadF K H v D := by
  intro v hv
  simp only [badsV, List.mem_cons, List.not_mem_nil, or_false] at hv
  rcases hv with rfl | rfl | rfl | rfl | rfl | rfl | rfl | rfl | rfl | rfl | rfl | rfl | rfl
  · exact ⟨_, .non, by decide +kernel, by decide +kernel, by decide +kernel, "NoneType", ⟨.base .non, by decide⟩, .inl ⟨by decide, rfl⟩⟩
  · exact ⟨_, .int 0, by decide +kernel, by decide +kernel, by decide +kernel, "int", kd_int, .inl ⟨by decide, rfl⟩⟩
  · exact ⟨_, .int 1, by decide +kernel, by decide +kernel, by decide +kernel, "int", kd_int, .inl ⟨by decide, rfl⟩⟩
  · exact ⟨_, .bl true, by decide +kernel, by decide +kernel, by decide +kernel, "bool", kd_bl true, .inl ⟨by decide, rfl⟩⟩
  · exact ⟨_, .str "1", by decide +kernel, by decide +kernel, by decide +kernel, "str", ⟨.base (.str _), by decide⟩, .inl ⟨by decide, rfl⟩⟩
  · exact bad_pair h0 (by decide) (by decide +kernel)
  · exact bad_pair h1 (by decide) (by decide +kernel)
  · exact bad_pair h2 (by decide) (by decide +kernel)
  · exact ⟨.tuple [.int 1], .tup (SqT.of h3) (.cons (.int 1) .nil), by decide +kernel, by decide +kernel, by decide +kernel, "tuple", ⟨.base (.tup h3), by decide⟩, .inr ⟨rfl, t3, _, rfl, SqT.of h3, .inl ⟨by show ¬ (1 : Nat) = 2; decide, rfl⟩⟩⟩
  · exact ⟨.list [.int 1, .int 2], .lst (SqL.of h4) (.cons (.int 1) (.cons (.int 2) .nil)), by decide +kernel, by decide +kernel, by decide +kernel, "list", ⟨.base (.lst h4), by decide⟩, .inl ⟨by decide, rfl⟩⟩
  · exact ⟨.dict [], .dic h5 .nil, by decide +kernel, by decide +kernel, by decide +kernel, "dict", ⟨.base (.dK h5), by decide⟩, .inl ⟨by decide, rfl⟩⟩
  · exact ⟨.tuple [.int 1, .bool true], .tup (SqT.of h6) (.cons (.int 1) (.cons (.bl true) .nil)), by decide +kernel, by decide +kernel, by decide +kernel, "tuple", ⟨.base (.tup h6), by decide⟩, .inr ⟨rfl, t6, _, rfl, SqT.of h6, .inr ⟨_, _, "int", "bool", rfl, kd_int, kd_bl true, rfl⟩⟩⟩
  · exact bad_pair h7 (by decide) (by decide +kernel)
theorem zero_one {K : PySem.W.Frag} {H : Hp} {t : Addr} (h : H t = some (.tup [.int 0, .int 1])) : FracV K H (.ref t) true :=
  ⟨"tuple", ⟨.base (.tup h), by decide⟩, .inr ⟨rfl, t, _, rfl, SqT.of h, .inr ⟨_, _, "int", "int", rfl, kd_int, kd_int, by decide⟩⟩⟩
def spRefused (T : List (Addr × Str)) : Sp := fun vs H Q _ => ∃ d : Addr, vs = [.ref d] ∧ Dice H d ∧ Tabs T H ∧ ∀ H', Mt T d H H' → Q (.bl true) H'
section
variable {P : Program} {w : World} {K : PySem.W.Frag} {mg : Str → Option Value} {base : Heap} {CN fN CO : Addr}
theorem ok_refused {T : List (Addr × Str)} {cR pR f fE fP fF fA fM fD : Addr} {fd fdE fdP fdF fdA fdM fdD : FuncData} (F : FunC K "_law_sums_refused" "_law_sums_refused" srefused f fd cR)
    (FE : Fun K "_law_error" "_law_error" serr fE fdE) (gE : mg "_law_error" = some (.ref fE)) (bE : L2.Binds K fdE ["_law_call"] [])
    (FP : Fun K "_law_pick" "_law_pick" spick fP fdP) (GP : FnOk P w K mg base L2.CX0 2 fP fdP ["_law_dice_here", "_law_items"] spPick) (gP : mg "_law_pick" = some (.ref fP)) (bP : L2.Binds K fdP ["_law_dice_here", "_law_items"] [])
    (FF : Fun K "_law_any_fraction" "_law_any_fraction" sanyf fF fdF) (GF : FnOk P w K mg base L2.CX0 3 fF fdF ["_law_dice_here"] (spAnyF K)) (gF : mg "_law_any_fraction" = some (.ref fF)) (bF : L2.Binds K fdF ["_law_dice_here"] [])
    (FA : Fun K "added" "added" sadd fA fdA) (GA : FnOk P w K mg base (L2.CX P w) 4 fA fdA ["one", "other"] (spOp CN K (fun a b c d => a * d + c * b) fun a b c d => b * d)) (gA : mg "added" = some (.ref fA)) (bA : L2.Binds K fdA ["one", "other"] [])
    (FM : Fun K "multiplied" "multiplied" smul fM fdM) (GM : FnOk P w K mg base (L2.CX P w) 4 fM fdM ["one", "other"] (spOp CN K (fun a b c d => a * c) fun a b c d => b * d)) (gM : mg "multiplied" = some (.ref fM)) (bM : L2.Binds K fdM ["one", "other"] [])
    (FD : Fun K "divided" "divided" sdiv fD fdD) (GD : FnOk P w K mg base (L2.CX P w) 4 fD fdD ["one", "other"] (spDiv CN CO K)) (gD : mg "divided" = some (.ref fD)) (bD : L2.Binds K fdD ["one", "other"] [])
    (B : Blt mg) (Z : Er K mg CN fN CO) (Y : Ex K CN CO) (TB : TabB base mg cR pR) (hmT : (pR, ("_law_sums_refused.<locals>.<lambda>" : Str)) ∈ T) (huT : ∀ p ∈ T, p.1 = pR → p.2 = ("_law_sums_refused.<locals>.<lambda>" : Str)) :
    FnG P w K mg base L2.CX0 7 f fd ["_law_dice_here"] (spRefused T) := by
  refine FunC.okG F screfused (fun vs H Q E h => ?_) (fun A outer s H vs Q E hg hr h => ?_)
  · obtain ⟨d, rfl, _⟩ := h
    rfl
  obtain ⟨d, rfl, hd, ht, q⟩ := h
  have hr2 : Room 2 _ := hr.mono (by decide)
  have hr3 : Room 3 _ := hr.mono (by decide)
  have hu : (A.deeper (PyProof.Rows.envOfC "_law_sums_refused" (defScope srefused) s.heap.objs.size f (.ref cR))).units + 64 < cLine := hr.units
  have er := fun {params : Arguments} {body : Expr} {scope : Scope} {t : XK → TE} {p lpos pos : Pos} (L : LamS (defScope srefused) scope) (hdef) (hbind) (hbody) => pe_err (X := cxOf L2.CX0 P w K mg base NRF "_law_sums_refused" (defScope srefused) f (.ref cR) A outer s H E) (T := T) (params := params) (body := body) (scope := scope) (t := t) (p := p) (lpos := lpos) (pos := pos) hg rfl gE FE bE B Z Y TB rfl hmT huT hr L hdef hbind hbody
  refine ⟨_, (pss_cons (ps_set (i := 2) screfused.nd rfl (Or.inr rfl) (pe_call GP hr2 rfl gP FP.kp bP .nil L2.pass0 (pa_cons (pv 0) (pa_cons (pe_lst (pa_cons pe_non (pa_cons pe_int (pa_cons pe_int (pa_cons pe_bl (pa_cons pe_str (pa_cons (pe_tup (pa_cons pe_int (pa_cons pe_int pa_nil))) (pa_cons (pe_tup (pa_cons pe_int (pa_cons pe_int pa_nil))) (pa_cons (pe_tup (pa_cons pe_int (pa_cons (pe_un un_neg pe_int) pa_nil))) (pa_cons (pe_tup (pa_cons pe_int pa_nil)) (pa_cons (pe_lst (pa_cons pe_int (pa_cons pe_int pa_nil))) (pa_cons pe_dnewK (pa_cons (pe_tup (pa_cons pe_int (pa_cons pe_bl pa_nil))) (pa_cons (pe_tup (pa_cons pe_int (pa_cons pe_int pa_nil))) pa_nil)))))))))))))) pa_nil))))
  (pss_cons (ps_set (i := 3) screfused.nd rfl (Or.inr rfl) (pe_call GF hr3 rfl gF FF.kp bF .nil L2.pass0 (pa_cons (pv 0) pa_nil)))
  (pss_cons (ps_set (i := 1) screfused.nd rfl (Or.inl rfl) (pe_lst (pa_cons (er (lamS_by (by decide +kernel)) rfl (fun _ _ _ _ _ => rfl) (fun A outer s H E f c' h4 => pe_callS GA h4 rfl gA FA.kp bA (fun σ => passAt (takes_of rfl rfl rfl rfl) σ) (pa_cons (pv 2) (pa_cons pe_non pa_nil)))) pa_nil)))
  (pss_cons (ps_expr (pe_bm PySem.F.plainAttrs_list PySem.F.slot_list_append PySem.F.type_list_append mt_append (pv 1) (pa_cons (er (lamS_by (by decide +kernel)) rfl (fun _ _ _ _ _ => rfl) (fun A outer s H E f c' h4 => pe_callS GA h4 rfl gA FA.kp bA (fun σ => passAt (takes_of rfl rfl rfl rfl) σ) (pa_cons (pv 3) (pa_cons (pv 2) pa_nil)))) pa_nil)))
  (pss_cons (ps_expr (pe_bm PySem.F.plainAttrs_list PySem.F.slot_list_append PySem.F.type_list_append mt_append (pv 1) (pa_cons (er (lamS_by (by decide +kernel)) rfl (fun _ _ _ _ _ => rfl) (fun A outer s H E f c' h4 => pe_callS GM h4 rfl gM FM.kp bM (fun σ => passAt (takes_of rfl rfl rfl rfl) σ) (pa_cons (pv 2) (pa_cons pe_non pa_nil)))) pa_nil)))
  (pss_cons (ps_expr (pe_bm PySem.F.plainAttrs_list PySem.F.slot_list_append PySem.F.type_list_append mt_append (pv 1) (pa_cons (er (lamS_by (by decide +kernel)) rfl (fun _ _ _ _ _ => rfl) (fun A outer s H E f c' h4 => pe_callS GM h4 rfl gM FM.kp bM (fun σ => passAt (takes_of rfl rfl rfl rfl) σ) (pa_cons (pv 3) (pa_cons (pv 2) pa_nil)))) pa_nil)))
  (pss_cons (ps_expr (pe_bm PySem.F.plainAttrs_list PySem.F.slot_list_append PySem.F.type_list_append mt_append (pv 1) (pa_cons (er (lamS_by (by decide +kernel)) rfl (fun _ _ _ _ _ => rfl) (fun A outer s H E f c' h4 => pe_callS GD h4 rfl gD FD.kp bD (fun σ => passAt (takes_of rfl rfl rfl rfl) σ) (pa_cons (pv 2) (pa_cons (pe_tup (pa_cons pe_int (pa_cons pe_int pa_nil))) pa_nil)))) pa_nil)))
  (pss_cons (ps_expr (pe_bm PySem.F.plainAttrs_list PySem.F.slot_list_append PySem.F.type_list_append mt_append (pv 1) (pa_cons (er (lamS_by (by decide +kernel)) rfl (fun _ _ _ _ _ => rfl) (fun A outer s H E f c' h4 => pe_callS GD h4 rfl gD FD.kp bD (fun σ => passAt (takes_of rfl rfl rfl rfl) σ) (pa_cons (pv 3) (pa_cons (pv 2) pa_nil)))) pa_nil)))
  (pss_one (ps_ret (pe_and (pe_cmpR (op_eqV hu) (pv 1) (pe_op op_rep (pe_lst (pa_cons (pe_op op_add_str pe_str (pe_callB (call_reprD hg hu) (by rfl) B.n_repr (by decide +kernel) (pa_cons (pv 2) pa_nil))) pa_nil)) pe_int) (nomark _)) (pe_one (pe_cmpR op_eq (er (lamS_by (by decide +kernel)) rfl (fun _ _ _ _ _ => rfl) (fun A outer s H E f c' h4 => pe_callS GD h4 rfl gD FD.kp bD (fun σ => passAt (takes_of rfl rfl rfl rfl) σ) (pa_cons (pv 3) (pa_cons (pe_tup (pa_cons pe_int (pa_cons pe_int pa_nil))) pa_nil)))) pe_str (nomark _)))))))))))))), ?_⟩
  have M0 := Mt.refl hd ht
  refine ⟨_, rfl, by show 2 ≤ sizeLine; decide, fun t0 n0 => ⟨by show 2 ≤ sizeLine; decide, fun t1 n1 => ⟨_, rfl, by show 2 ≤ sizeLine; decide, fun t2 n2 => ⟨by show 1 ≤ sizeLine; decide, fun t3 n3 => ⟨by show 2 ≤ sizeLine; decide, fun l4 n4 => fun d5 n5 => ?_⟩⟩⟩⟩⟩
  refine ⟨by show 2 ≤ sizeLine; decide, fun t6 n6 => ⟨by show 2 ≤ sizeLine; decide, fun t7 n7 => ⟨by show 13 ≤ sizeLine; decide, fun l n8 => ?_⟩⟩⟩
  obtain ⟨x0, y0, z0, hd0⟩ := id hd
  have w0 : t0 ≠ d := (ne_of_none ((Same.refl _) _ _ hd0) n0).symm
  have w1 : t1 ≠ d := (ne_of_none ((sm n0) _ _ hd0) n1).symm
  have w2 : t2 ≠ d := (ne_of_none (((sm n0).trans (sm n1)) _ _ hd0) n2).symm
  have w3 : t3 ≠ d := (ne_of_none ((((sm n0).trans (sm n1)).trans (sm n2)) _ _ hd0) n3).symm
  have w4 : l4 ≠ d := (ne_of_none (((((sm n0).trans (sm n1)).trans (sm n2)).trans (sm n3)) _ _ hd0) n4).symm
  have w5 : d5 ≠ d := (ne_of_none ((((((sm n0).trans (sm n1)).trans (sm n2)).trans (sm n3)).trans (sm n4)) _ _ hd0) n5).symm
  have w6 : t6 ≠ d := (ne_of_none (((((((sm n0).trans (sm n1)).trans (sm n2)).trans (sm n3)).trans (sm n4)).trans (sm n5)) _ _ hd0) n6).symm
  have w7 : t7 ≠ d := (ne_of_none ((((((((sm n0).trans (sm n1)).trans (sm n2)).trans (sm n3)).trans (sm n4)).trans (sm n5)).trans (sm n6)) _ _ hd0) n7).symm
  have wl : l ≠ d := (ne_of_none (((((((((sm n0).trans (sm n1)).trans (sm n2)).trans (sm n3)).trans (sm n4)).trans (sm n5)).trans (sm n6)).trans (sm n7)) _ _ hd0) n8).symm
  have S1 := (((((((((sm n0).trans (sm n1)).trans (sm n2)).trans (sm n3)).trans (sm n4)).trans (sm n5)).trans (sm n6)).trans (sm n7)).trans (sm (o := .lst (badsV t0 t1 t2 t3 l4 d5 t6 t7)) n8))
  have W := bads (K := K) (off_at w0 (((((((((sm n1).trans (sm n2)).trans (sm n3)).trans (sm n4)).trans (sm n5)).trans (sm n6)).trans (sm n7)).trans (sm (o := .lst (badsV t0 t1 t2 t3 l4 d5 t6 t7)) n8)) _ _ upd_same)) (off_at w1 ((((((((sm n2).trans (sm n3)).trans (sm n4)).trans (sm n5)).trans (sm n6)).trans (sm n7)).trans (sm (o := .lst (badsV t0 t1 t2 t3 l4 d5 t6 t7)) n8)) _ _ upd_same)) (off_at w2 (((((((sm n3).trans (sm n4)).trans (sm n5)).trans (sm n6)).trans (sm n7)).trans (sm (o := .lst (badsV t0 t1 t2 t3 l4 d5 t6 t7)) n8)) _ _ upd_same)) (off_at w3 ((((((sm n4).trans (sm n5)).trans (sm n6)).trans (sm n7)).trans (sm (o := .lst (badsV t0 t1 t2 t3 l4 d5 t6 t7)) n8)) _ _ upd_same)) (off_at w4 (((((sm n5).trans (sm n6)).trans (sm n7)).trans (sm (o := .lst (badsV t0 t1 t2 t3 l4 d5 t6 t7)) n8)) _ _ upd_same)) (off_at w5 ((((sm n6).trans (sm n7)).trans (sm (o := .lst (badsV t0 t1 t2 t3 l4 d5 t6 t7)) n8)) _ _ upd_same)) (off_at w6 (((sm n7).trans (sm (o := .lst (badsV t0 t1 t2 t3 l4 d5 t6 t7)) n8)) _ _ upd_same)) (off_at w7 ((sm (o := .lst (badsV t0 t1 t2 t3 l4 d5 t6 t7)) n8) _ _ upd_same))
  have M1 := M0.same S1
  refine ⟨d, l, badsV t0 t1 t2 t3 l4 d5 t6 t7, rfl, by show 0 < 13; decide, by show 13 < 1000000; decide, M1.dice, upd_same, wl.symm, fun v H2 hv R1 => ?_⟩
  obtain ⟨D, bD⟩ := W v hv
  have M2 := M1.move (Mv.roll (Mv.refl M1.dice) R1)
  have bD2 := bD.ext (fun b o e _ => off_rolled R1 b o e)
  refine ⟨_, rfl, d, rfl, M2.dice, fun p A1 B1 H3 mv hp lB on sA sB => ?_⟩
  have M3 := M2.move mv
  have bD3 := bD2.ext fun b o e _ => mv.off b o e
  have N0 := Mt.refl M3.dice M3.tabs
  have fp : FracV K (Off d H3) (.ref p) true := ⟨"tuple", ⟨tyX_tup hp, by decide⟩, .inr ⟨rfl, p, _, rfl, hp, .inr ⟨_, _, "int", "int", rfl, kd_int, kd_int, by
    show true = (decide (B1 ≥ 1) && decide (Nat.gcd A1.natAbs B1.natAbs = 1))
    rw [decide_eq_true lB, decide_eq_true on]
    rfl⟩⟩⟩
  refine ⟨M3.tabs, fun H4 e4 t4 => ⟨_, rfl, v, .non, false, false, rfl, ?_, ?_, fun _ => ?_, (fun z => nomatch z), fun z => nomatch z⟩⟩
  · exact frac_ext ((N0.lam e4 t4).off.trans off_incl) bD3.fr
  · exact ⟨"NoneType", ⟨.base .non, by decide⟩, .inl ⟨by decide, rfl⟩⟩
  refine num_told (N0.lam e4 t4) bD3 fun x5 H5 N1 s5 hx5 dr5 => ?_
  refine Or.inl ⟨rfl, x5, v, D, rfl, hx5, dr5, bD3.sh, bD3.dp, bD3.sz, ?_⟩
  have txE : ∃ tx : V, tx = .str ("number " ++ D.shown) := ⟨_, rfl⟩
  refine ⟨by show 1 ≤ sizeLine; decide, fun L nL => ?_⟩
  have nLo := N1.new nL
  have neL : d ≠ L := by
    obtain ⟨a1, a2, a3, a4⟩ := N1.dice
    exact ne_of_none a4 nL
  have Q0 := N1.same (sm (o := .lst [.str ("number " ++ D.shown)]) nL)
  have hL0 : (upd H5 L (.lst [.str ("number " ++ D.shown)])) L = some (.lst [.str ("number " ++ D.shown)]) := upd_same
  generalize upd H5 L (HO.lst [V.str (Str.ofString "number " ++ D.shown)]) = J0 at Q0 hL0 ⊢
  refine ⟨_, rfl, .inl ⟨rfl, _, SqL.of hL0⟩, Q0.tabs, fun U0 e0_ t0_ => ?_⟩
  have A0_ := Q0.lam e0_ t0_
  refine ⟨_, rfl, _, rfl, .ref p, v, true, false, rfl, frac_ext (A0_.off.trans off_incl) fp, frac_ext (A0_.off.trans off_incl) bD3.fr, (fun z => nomatch z), fun _ _ => ?_, fun _ z => nomatch z⟩
  refine num_told A0_ bD3 fun x0_ V0 B0_ s0_ hx0_ dr0_ => ?_
  have hV0 : V0 L = some (.lst [.str ("number " ++ D.shown)]) := s0_ _ _ (e0_ _ _ hL0 fun ps z => nomatch z)
  refine Or.inl ⟨rfl, x0_, v, D, rfl, hx0_, dr0_, bD3.sh, bD3.dp, bD3.sz, L, _, _, rfl, rfl, hV0, by show 1 < sizeLine; decide, ?_⟩
  have Q1 := B0_.set (o := .lst [.str ("number " ++ D.shown), .str ("number " ++ D.shown)]) nLo neL hV0
  have hL1 : (upd V0 L (.lst [.str ("number " ++ D.shown), .str ("number " ++ D.shown)])) L = some (.lst [.str ("number " ++ D.shown), .str ("number " ++ D.shown)]) := upd_same
  replace Q1 : Mt T d H3 (upd V0 L (.lst ([.str ("number " ++ D.shown)] ++ [.str ("number " ++ D.shown)]))) := Q1
  replace hL1 : (upd V0 L (.lst ([.str ("number " ++ D.shown)] ++ [.str ("number " ++ D.shown)]))) L = some (.lst [.str ("number " ++ D.shown), .str ("number " ++ D.shown)]) := hL1
  generalize upd V0 L (HO.lst ([V.str (Str.ofString "number " ++ D.shown)] ++ [V.str (Str.ofString "number " ++ D.shown)])) = J1 at Q1 hL1 ⊢
  refine ⟨_, rfl, .inl ⟨rfl, _, SqL.of hL1⟩, Q1.tabs, fun U1 e1_ t1_ => ?_⟩
  have A1_ := Q1.lam e1_ t1_
  refine ⟨_, rfl, v, .non, false, false, rfl, frac_ext (A1_.off.trans off_incl) bD3.fr, ⟨"NoneType", ⟨.base .non, by decide⟩, .inl ⟨by decide, rfl⟩⟩, fun _ => ?_, (fun z => nomatch z), fun z => nomatch z⟩
  refine num_told A1_ bD3 fun x1_ V1 B1_ s1_ hx1_ dr1_ => ?_
  have hV1 : V1 L = some (.lst [.str ("number " ++ D.shown), .str ("number " ++ D.shown)]) := s1_ _ _ (e1_ _ _ hL1 fun ps z => nomatch z)
  refine Or.inl ⟨rfl, x1_, v, D, rfl, hx1_, dr1_, bD3.sh, bD3.dp, bD3.sz, L, _, _, rfl, rfl, hV1, by show 2 < sizeLine; decide, ?_⟩
  have Q2 := B1_.set (o := .lst [.str ("number " ++ D.shown), .str ("number " ++ D.shown), .str ("number " ++ D.shown)]) nLo neL hV1
  have hL2 : (upd V1 L (.lst [.str ("number " ++ D.shown), .str ("number " ++ D.shown), .str ("number " ++ D.shown)])) L = some (.lst [.str ("number " ++ D.shown), .str ("number " ++ D.shown), .str ("number " ++ D.shown)]) := upd_same
  replace Q2 : Mt T d H3 (upd V1 L (.lst ([.str ("number " ++ D.shown), .str ("number " ++ D.shown)] ++ [.str ("number " ++ D.shown)]))) := Q2
  replace hL2 : (upd V1 L (.lst ([.str ("number " ++ D.shown), .str ("number " ++ D.shown)] ++ [.str ("number " ++ D.shown)]))) L = some (.lst [.str ("number " ++ D.shown), .str ("number " ++ D.shown), .str ("number " ++ D.shown)]) := hL2
  generalize upd V1 L (HO.lst ([V.str (Str.ofString "number " ++ D.shown), V.str (Str.ofString "number " ++ D.shown)] ++ [V.str (Str.ofString "number " ++ D.shown)])) = J2 at Q2 hL2 ⊢
  refine ⟨_, rfl, .inl ⟨rfl, _, SqL.of hL2⟩, Q2.tabs, fun U2 e2_ t2_ => ?_⟩
  have A2_ := Q2.lam e2_ t2_
  refine ⟨_, rfl, _, rfl, .ref p, v, true, false, rfl, frac_ext (A2_.off.trans off_incl) fp, frac_ext (A2_.off.trans off_incl) bD3.fr, (fun z => nomatch z), fun _ _ => ?_, fun _ z => nomatch z⟩
  refine num_told A2_ bD3 fun x2_ V2 B2_ s2_ hx2_ dr2_ => ?_
  have hV2 : V2 L = some (.lst [.str ("number " ++ D.shown), .str ("number " ++ D.shown), .str ("number " ++ D.shown)]) := s2_ _ _ (e2_ _ _ hL2 fun ps z => nomatch z)
  refine Or.inl ⟨rfl, x2_, v, D, rfl, hx2_, dr2_, bD3.sh, bD3.dp, bD3.sz, L, _, _, rfl, rfl, hV2, by show 3 < sizeLine; decide, ?_⟩
  have Q3 := B2_.set (o := .lst [.str ("number " ++ D.shown), .str ("number " ++ D.shown), .str ("number " ++ D.shown), .str ("number " ++ D.shown)]) nLo neL hV2
  have hL3 : (upd V2 L (.lst [.str ("number " ++ D.shown), .str ("number " ++ D.shown), .str ("number " ++ D.shown), .str ("number " ++ D.shown)])) L = some (.lst [.str ("number " ++ D.shown), .str ("number " ++ D.shown), .str ("number " ++ D.shown), .str ("number " ++ D.shown)]) := upd_same
  replace Q3 : Mt T d H3 (upd V2 L (.lst ([.str ("number " ++ D.shown), .str ("number " ++ D.shown), .str ("number " ++ D.shown)] ++ [.str ("number " ++ D.shown)]))) := Q3
  replace hL3 : (upd V2 L (.lst ([.str ("number " ++ D.shown), .str ("number " ++ D.shown), .str ("number " ++ D.shown)] ++ [.str ("number " ++ D.shown)]))) L = some (.lst [.str ("number " ++ D.shown), .str ("number " ++ D.shown), .str ("number " ++ D.shown), .str ("number " ++ D.shown)]) := hL3
  generalize upd V2 L (HO.lst ([V.str (Str.ofString "number " ++ D.shown), V.str (Str.ofString "number " ++ D.shown), V.str (Str.ofString "number " ++ D.shown)] ++ [V.str (Str.ofString "number " ++ D.shown)])) = J3 at Q3 hL3 ⊢
  refine ⟨_, rfl, .inl ⟨rfl, _, SqL.of hL3⟩, Q3.tabs, fun U3 e3_ t3_ => ?_⟩
  have A3_ := Q3.lam e3_ t3_
  refine ⟨_, rfl, by show 2 ≤ sizeLine; decide, fun y3 m3 => ?_⟩
  have C3_ := A3_.same (sm (o := .tup [.int 0, .int 1]) m3)
  refine ⟨v, .ref y3, false, true, rfl, frac_ext (C3_.off.trans off_incl) bD3.fr, zero_one upd_same, fun _ => ?_, (fun z => nomatch z), fun z => nomatch z⟩
  refine num_told C3_ bD3 fun x3_ V3 B3_ s3_ hx3_ dr3_ => ?_
  have hV3 : V3 L = some (.lst [.str ("number " ++ D.shown), .str ("number " ++ D.shown), .str ("number " ++ D.shown), .str ("number " ++ D.shown)]) := s3_ _ _ ((sm m3) _ _ (e3_ _ _ hL3 fun ps z => nomatch z))
  refine Or.inl ⟨rfl, x3_, v, D, rfl, hx3_, dr3_, bD3.sh, bD3.dp, bD3.sz, L, _, _, rfl, rfl, hV3, by show 4 < sizeLine; decide, ?_⟩
  have Q4 := B3_.set (o := .lst [.str ("number " ++ D.shown), .str ("number " ++ D.shown), .str ("number " ++ D.shown), .str ("number " ++ D.shown), .str ("number " ++ D.shown)]) nLo neL hV3
  have hL4 : (upd V3 L (.lst [.str ("number " ++ D.shown), .str ("number " ++ D.shown), .str ("number " ++ D.shown), .str ("number " ++ D.shown), .str ("number " ++ D.shown)])) L = some (.lst [.str ("number " ++ D.shown), .str ("number " ++ D.shown), .str ("number " ++ D.shown), .str ("number " ++ D.shown), .str ("number " ++ D.shown)]) := upd_same
  replace Q4 : Mt T d H3 (upd V3 L (.lst ([.str ("number " ++ D.shown), .str ("number " ++ D.shown), .str ("number " ++ D.shown), .str ("number " ++ D.shown)] ++ [.str ("number " ++ D.shown)]))) := Q4
  replace hL4 : (upd V3 L (.lst ([.str ("number " ++ D.shown), .str ("number " ++ D.shown), .str ("number " ++ D.shown), .str ("number " ++ D.shown)] ++ [.str ("number " ++ D.shown)]))) L = some (.lst [.str ("number " ++ D.shown), .str ("number " ++ D.shown), .str ("number " ++ D.shown), .str ("number " ++ D.shown), .str ("number " ++ D.shown)]) := hL4
  generalize upd V3 L (HO.lst ([V.str (Str.ofString "number " ++ D.shown), V.str (Str.ofString "number " ++ D.shown), V.str (Str.ofString "number " ++ D.shown), V.str (Str.ofString "number " ++ D.shown)] ++ [V.str (Str.ofString "number " ++ D.shown)])) = J4 at Q4 hL4 ⊢
  refine ⟨_, rfl, .inl ⟨rfl, _, SqL.of hL4⟩, Q4.tabs, fun U4 e4_ t4_ => ?_⟩
  have A4_ := Q4.lam e4_ t4_
  refine ⟨_, rfl, _, rfl, .ref p, v, true, false, rfl, frac_ext (A4_.off.trans off_incl) fp, frac_ext (A4_.off.trans off_incl) bD3.fr, (fun z => nomatch z), fun _ _ => ?_, fun _ z => nomatch z⟩
  refine num_told A4_ bD3 fun x4_ V4 B4_ s4_ hx4_ dr4_ => ?_
  have hV4 : V4 L = some (.lst [.str ("number " ++ D.shown), .str ("number " ++ D.shown), .str ("number " ++ D.shown), .str ("number " ++ D.shown), .str ("number " ++ D.shown)]) := s4_ _ _ (e4_ _ _ hL4 fun ps z => nomatch z)
  refine Or.inl ⟨rfl, x4_, v, D, rfl, hx4_, dr4_, bD3.sh, bD3.dp, bD3.sz, L, _, _, rfl, rfl, hV4, by show 5 < sizeLine; decide, ?_⟩
  have Q5 := B4_.set (o := .lst [.str ("number " ++ D.shown), .str ("number " ++ D.shown), .str ("number " ++ D.shown), .str ("number " ++ D.shown), .str ("number " ++ D.shown), .str ("number " ++ D.shown)]) nLo neL hV4
  have hL5 : (upd V4 L (.lst [.str ("number " ++ D.shown), .str ("number " ++ D.shown), .str ("number " ++ D.shown), .str ("number " ++ D.shown), .str ("number " ++ D.shown), .str ("number " ++ D.shown)])) L = some (.lst [.str ("number " ++ D.shown), .str ("number " ++ D.shown), .str ("number " ++ D.shown), .str ("number " ++ D.shown), .str ("number " ++ D.shown), .str ("number " ++ D.shown)]) := upd_same
  replace Q5 : Mt T d H3 (upd V4 L (.lst ([.str ("number " ++ D.shown), .str ("number " ++ D.shown), .str ("number " ++ D.shown), .str ("number " ++ D.shown), .str ("number " ++ D.shown)] ++ [.str ("number " ++ D.shown)]))) := Q5
  replace hL5 : (upd V4 L (.lst ([.str ("number " ++ D.shown), .str ("number " ++ D.shown), .str ("number " ++ D.shown), .str ("number " ++ D.shown), .str ("number " ++ D.shown)] ++ [.str ("number " ++ D.shown)]))) L = some (.lst [.str ("number " ++ D.shown), .str ("number " ++ D.shown), .str ("number " ++ D.shown), .str ("number " ++ D.shown), .str ("number " ++ D.shown), .str ("number " ++ D.shown)]) := hL5
  generalize upd V4 L (HO.lst ([V.str (Str.ofString "number " ++ D.shown), V.str (Str.ofString "number " ++ D.shown), V.str (Str.ofString "number " ++ D.shown), V.str (Str.ofString "number " ++ D.shown), V.str (Str.ofString "number " ++ D.shown)] ++ [V.str (Str.ofString "number " ++ D.shown)])) = J5 at Q5 hL5 ⊢
  have dr6 := drN (Q5.off.trans off_incl) bD3.dr
  have b7 : (7 : Nat) + D.shown.length ≤ sizeLine := Nat.le_trans (Nat.add_le_add_left bD3.sz 7) (by decide)
  have b0 : D.shown.length ≤ sizeLine := Nat.le_trans bD3.sz (by decide)
  refine ⟨_, rfl, _, rfl, v, D, rfl, dr6, bD3.sh, bD3.dp, b0, _, _, rfl, rfl, b7, by show 1 ≤ sizeLine; decide, fun r1 m1 => ⟨r1, 6, _, rfl, rfl, upd_same, by decide, by decide, by show 1 * 6 ≤ sizeLine; decide, fun r2 m2 => ?_⟩⟩
  refine ⟨1, by decide, .inl ⟨L, r2, _, _, rfl, rfl, SqL.of (((sm m1).trans (sm m2)) _ _ hL5), SqL.of upd_same, .cons (.inl ⟨rfl, rfl⟩) (.cons (.inl ⟨rfl, rfl⟩) (.cons (.inl ⟨rfl, rfl⟩) (.cons (.inl ⟨rfl, rfl⟩) (.cons (.inl ⟨rfl, rfl⟩) (.cons (.inl ⟨rfl, rfl⟩) .nil)))))⟩, _, rfl, ?_⟩
  refine ite2 (fun _ => ?_) (fun hc => absurd rfl hc)
  have R6 := (Q5.same (sm (o := .lst [.str ("number " ++ D.shown)]) m1)).same (sm (o := .lst (List.replicate (6 : Int).toNat [V.str ("number " ++ D.shown)]).flatten) m2)
  refine ⟨R6.tabs, fun U6 e6_ t6_ => ?_⟩
  have A6 := R6.lam e6_ t6_
  refine ⟨_, rfl, by show 2 ≤ sizeLine; decide, fun y6 k6 => ?_⟩
  have C6 := A6.same (sm (o := .tup [.int 0, .int 1]) k6)
  have big : (2 : Nat) ^ 300 ≤ 2 ^ 1000 := Nat.pow_le_pow_right (by decide) (by decide)
  refine ⟨.ref p, .ref y6, true, true, rfl, frac_ext (C6.off.trans off_incl) fp, zero_one upd_same, (fun z => nomatch z), (fun _ z => nomatch z), fun _ _ => ⟨A1, B1, 0, 1, ⟨p, y6, rfl, rfl, extN_tup (C6.off.trans off_incl) hp, SqT.of upd_same, Nat.lt_of_lt_of_le sA big, Nat.lt_of_lt_of_le sB big, Nat.lt_of_lt_of_le (by decide : (0 : Int).natAbs < 2 ^ 1) (Nat.pow_le_pow_right (by decide) (by decide)), Nat.lt_of_lt_of_le (by decide : (1 : Int).natAbs < 2 ^ 1) (Nat.pow_le_pow_right (by decide) (by decide)), lB, by decide⟩, fun _ => Or.inr ⟨rfl, rfl, ?_⟩, fun z => absurd rfl z⟩⟩
  exact q _ (M3.trans C6)
end
end VW
/-! K00S -/
set_option maxRecDepth 100000
set_option maxHeartbeats 1000000
namespace VW
open PySem PySem.Spec PyProof.Rows L2 VK LamX
abbrev ssums : Stmt := topS 41
abbrev NSU : List Str := ["_law_dice_here", "_law_one", "_law_other"]
theorem scsums : FnScope NSU ["_law_dice_here"] (defScope ssums) := ⟨rfl, rfl, rfl, by decide +kernel, rfl, by decide +kernel, by decide +kernel⟩
theorem pass_none {X : Cx} : Passes (L2.CX X.prog X.w) X L2.E0 := fun _ _ _ _ _ _ _ h => by
  obtain ⟨_, _, _, _, _, _, _, _, _, _, _, _, z⟩ := h
  exact False.elim z
section
variable {P : Program} {w : World} {K : PySem.W.Frag} {mg : Str → Option Value} {base : Heap} {CN fN CO : Addr}
theorem ok_sums {T : List (Addr × Str)} {cR pR f fE fF fA fM fD fV : Addr} {fd fdE fdF fdA fdM fdD fdV : FuncData} (F : FunC K "_law_sums_right" "_law_sums_right" ssums f fd cR)
    (FE : Fun K "_law_error" "_law_error" serr fE fdE) (gE : mg "_law_error" = some (.ref fE)) (bE : L2.Binds K fdE ["_law_call"] [])
    (FF : Fun K "_law_any_fraction" "_law_any_fraction" sanyf fF fdF) (GF : FnOk P w K mg base L2.CX0 3 fF fdF ["_law_dice_here"] (spAnyF K)) (gF : mg "_law_any_fraction" = some (.ref fF)) (bF : L2.Binds K fdF ["_law_dice_here"] [])
    (FA : Fun K "added" "added" sadd fA fdA) (GA : FnOk P w K mg base (L2.CX P w) 4 fA fdA ["one", "other"] (spOp CN K (fun a b c d => a * d + c * b) fun a b c d => b * d)) (gA : mg "added" = some (.ref fA)) (bA : L2.Binds K fdA ["one", "other"] [])
    (FM : Fun K "multiplied" "multiplied" smul fM fdM) (GM : FnOk P w K mg base (L2.CX P w) 4 fM fdM ["one", "other"] (spOp CN K (fun a b c d => a * c) fun a b c d => b * d)) (gM : mg "multiplied" = some (.ref fM)) (bM : L2.Binds K fdM ["one", "other"] [])
    (FD : Fun K "divided" "divided" sdiv fD fdD) (GD : FnOk P w K mg base (L2.CX P w) 4 fD fdD ["one", "other"] (spDiv CN CO K)) (gD : mg "divided" = some (.ref fD)) (bD : L2.Binds K fdD ["one", "other"] [])
    (FV : Fun K "_law_is_value" "_law_is_value" svalue fV fdV) (GV : FnOk P w K mg base L2.CX0 2 fV fdV ["_law_found", "_law_top", "_law_bottom"] (spValue K)) (gV : mg "_law_is_value" = some (.ref fV)) (bV : L2.Binds K fdV ["_law_found", "_law_top", "_law_bottom"] [])
    (B : Blt mg) (Z : Er K mg CN fN CO) (Y : Ex K CN CO) (TB : TabB base mg cR pR) (hmT : (pR, ("_law_sums_right.<locals>.<lambda>" : Str)) ∈ T) (huT : ∀ p ∈ T, p.1 = pR → p.2 = ("_law_sums_right.<locals>.<lambda>" : Str)) :
    FnG P w K mg base L2.CX0 7 f fd ["_law_dice_here"] (spRefused T) := by
  refine FunC.okG F scsums (fun vs H Q E h => ?_) (fun A outer s H vs Q E hg hr h => ?_)
  · obtain ⟨d, rfl, _⟩ := h
    rfl
  obtain ⟨d, rfl, hd, ht, q⟩ := h
  have hr2 : Room 2 _ := hr.mono (by decide)
  have hr3 : Room 3 _ := hr.mono (by decide)
  have hr4 : Room 4 _ := hr.mono (by decide)
  have er := fun {params : Arguments} {body : Expr} {scope : Scope} {t : XK → TE} {p lpos pos : Pos} (L : LamS (defScope ssums) scope) (hdef) (hbind) (hbody) => pe_err (X := cxOf L2.CX0 P w K mg base NSU "_law_sums_right" (defScope ssums) f (.ref cR) A outer s H E) (T := T) (params := params) (body := body) (scope := scope) (t := t) (p := p) (lpos := lpos) (pos := pos) hg rfl gE FE bE B Z Y TB rfl hmT huT hr L hdef hbind hbody
  refine ⟨_, (pss_cons (ps_asg (pe_tup (pa_cons (pe_call GF hr3 rfl gF FF.kp bF .nil L2.pass0 (pa_cons (pv 0) pa_nil)) (pa_cons (pe_call GF hr3 rfl gF FF.kp bF .nil L2.pass0 (pa_cons (pv 0) pa_nil)) pa_nil))) (pg_tup (by rfl) (pgs_cons (pg_name (i := 1) scsums.nd rfl (Or.inr rfl)) (pgs_cons (pg_name (i := 2) scsums.nd rfl (Or.inr rfl)) pgs_nil))))
  (pss_cons (ps_if (pt_not (pt_val (pe_call GV hr2 rfl gV FV.kp bV .nil L2.pass0 (pa_cons (pe_call GA hr4 rfl gA FA.kp bA .nil pass_none (pa_cons (pv 1) (pa_cons (pv 2) pa_nil))) (pa_cons (pe_op op_add (pe_op op_mulW (pe_ix ix_tup (pv 1) pe_int (fun _ _ => rfl)) (pe_ix ix_tup (pv 2) pe_int (fun _ _ => rfl))) (pe_op op_mulW (pe_ix ix_tup (pv 2) pe_int (fun _ _ => rfl)) (pe_ix ix_tup (pv 1) pe_int (fun _ _ => rfl)))) (pa_cons (pe_op op_mulW (pe_ix ix_tup (pv 1) pe_int (fun _ _ => rfl)) (pe_ix ix_tup (pv 2) pe_int (fun _ _ => rfl))) pa_nil)))))) (pss_one (ps_ret pe_bl)) pss_nil)
  (pss_cons (ps_if (pt_not (pt_val (pe_call GV hr2 rfl gV FV.kp bV .nil L2.pass0 (pa_cons (pe_call GM hr4 rfl gM FM.kp bM .nil pass_none (pa_cons (pv 1) (pa_cons (pv 2) pa_nil))) (pa_cons (pe_op op_mulW (pe_ix ix_tup (pv 1) pe_int (fun _ _ => rfl)) (pe_ix ix_tup (pv 2) pe_int (fun _ _ => rfl))) (pa_cons (pe_op op_mulW (pe_ix ix_tup (pv 1) pe_int (fun _ _ => rfl)) (pe_ix ix_tup (pv 2) pe_int (fun _ _ => rfl))) pa_nil)))))) (pss_one (ps_ret pe_bl)) pss_nil)
  (pss_cons (ps_if (pt_cmpR op_eq (pe_ix ix_tup (pv 2) pe_int (fun _ _ => rfl)) pe_int (nomark _)) (pss_one (ps_ret (pe_cmpR op_eq (er (lamS_by (by decide +kernel)) rfl (fun _ _ _ _ _ => rfl) (fun A outer s H E f c' h4 => pe_callS GD h4 rfl gD FD.kp bD (fun σ => passAt (takes_of rfl rfl rfl rfl) σ) (pa_cons (pv 1) (pa_cons (pv 2) pa_nil)))) pe_str (nomark _)))) pss_nil)
  (pss_one (ps_ret (pe_call GV hr2 rfl gV FV.kp bV .nil L2.pass0 (pa_cons (pe_call GD hr4 rfl gD FD.kp bD .nil pass_none (pa_cons (pv 1) (pa_cons (pv 2) pa_nil))) (pa_cons (pe_op op_mulW (pe_ix ix_tup (pv 1) pe_int (fun _ _ => rfl)) (pe_ix ix_tup (pv 2) pe_int (fun _ _ => rfl))) (pa_cons (pe_op op_mulW (pe_ix ix_tup (pv 1) pe_int (fun _ _ => rfl)) (pe_ix ix_tup (pv 2) pe_int (fun _ _ => rfl))) pa_nil)))))))))), ?_⟩
  have M0 := Mt.refl hd ht
  refine ⟨_, rfl, d, rfl, hd, fun p A1 B1 H1 mv1 hp1 l1 o1 sa sb => ⟨_, rfl, d, rfl, mv1.dice, fun p2 C1 D1 H2 mv2 hp2 l2 o2 sc sd => ⟨by show 2 ≤ sizeLine; decide, fun t nt => ⟨t, [.ref p, .ref p2], rfl, SqT.of upd_same, rfl, _, _, rfl, _, _, rfl, rfl, ?_⟩⟩⟩⟩
  have M2 := ((M0.move mv1).move mv2).same (sm (o := .tup [.ref p, .ref p2]) nt)
  have hq1 := sqT_same (mv2.off.trans (off_same (sm (o := .tup [.ref p, .ref p2]) nt))) hp1
  have hq2 := sqT_same (off_same (sm (o := .tup [.ref p, .ref p2]) nt)) hp2
  generalize upd H2 t (HO.tup [V.ref p, V.ref p2]) = Hc at M2 hq1 hq2 ⊢
  have I0 : atI [V.int A1, V.int B1] 0 = some (.int A1) := atI_nat (j := 0) rfl
  have I1 : atI [V.int A1, V.int B1] 1 = some (.int B1) := atI_nat (j := 1) rfl
  have J0 : atI [V.int C1, V.int D1] 0 = some (.int C1) := atI_nat (j := 0) rfl
  have J1 : atI [V.int C1, V.int D1] 1 = some (.int D1) := atI_nat (j := 1) rfl
  have big : (2 : Nat) ^ 300 ≤ 2 ^ 1000 := Nat.pow_le_pow_right (by decide) (by decide)
  have ua := Nat.lt_of_lt_of_le sa big
  have ub := Nat.lt_of_lt_of_le sb big
  have uc := Nat.lt_of_lt_of_le sc big
  have ud := Nat.lt_of_lt_of_le sd big
  have p6 : ∀ {i j : Int}, i.natAbs < 2 ^ 300 → j.natAbs < 2 ^ 300 → (i * j).natAbs < 2 ^ 600 := fun h1 h2 => wide_lt h1 h2
  have p9 : (2 : Nat) ^ 600 + 2 ^ 600 ≤ 2 ^ 940 := by decide +kernel
  have p8 : (2 : Nat) ^ 600 ≤ 2 ^ 940 := Nat.pow_le_pow_right (by decide) (by decide)
  have fq : ∀ {x : Addr} {i j : Int}, SqT K (Off d Hc) x [.int i, .int j] → 1 ≤ j → Nat.gcd i.natAbs j.natAbs = 1 → FracV K (Off d Hc) (.ref x) true := fun {x i j} h h1 h2 => ⟨"tuple", ⟨tyX_tup h, by decide⟩, .inr ⟨rfl, x, _, rfl, h, .inr ⟨_, _, "int", "int", rfl, kd_int, kd_int, by
    show true = (decide (j ≥ 1) && decide (Nat.gcd i.natAbs j.natAbs = 1))
    rw [decide_eq_true h1, decide_eq_true h2]
    rfl⟩⟩⟩
  have f1 := fq hq1 l1 o1
  have f2 := fq hq2 l2 o2
  have two : ∀ {Hk : Hp}, Mt T d Hc Hk → Two K Hk (.ref p) (.ref p2) A1 B1 C1 D1 := fun M => ⟨p, p2, rfl, rfl, extN_tup (M.off.trans off_incl) hq1, extN_tup (M.off.trans off_incl) hq2, ua, ub, uc, ud, l1, l2⟩
  have N0 := Mt.refl M2.dice M2.tabs
  refine ⟨_, rfl, _, rfl, .ref p, .ref p2, true, true, rfl, frac_ext (N0.off.trans off_incl) f1, frac_ext (N0.off.trans off_incl) f2, (fun z => nomatch z), (fun _ z => nomatch z), fun _ _ => ⟨A1, B1, C1, D1, two N0, fun r1 m1 => ?_⟩⟩
  have E1 := N0.same (sm (o := .tup (lowT (A1 * D1 + C1 * B1) (B1 * D1))) m1)
  have g1 := extN_tup (E1.off.trans off_incl) hq1
  have k1 := extN_tup (E1.off.trans off_incl) hq2
  refine ⟨_, rfl, p, _, _, _, rfl, rfl, g1, I0, _, rfl, p2, _, _, _, rfl, rfl, k1, J1, _, _, rfl, rfl, wide2 ua ud, _, rfl, p2, _, _, _, rfl, rfl, k1, J0, _, rfl, p, _, _, _, rfl, rfl, g1, I1, _, _, rfl, rfl, wide2 uc ub, _, _, rfl, rfl, _, rfl, p, _, _, _, rfl, rfl, g1, I1, _, rfl, p2, _, _, _, rfl, rfl, k1, J1, _, _, rfl, rfl, wide2 ub ud, r1, _, _, rfl, SqT.of upd_same, pos2 l1 l2, ?_, Nat.lt_of_lt_of_le (p6 sb sd) p8, fun W1 v1 => ⟨_, rfl, ?_⟩⟩
  · have h1 := p6 sa sd
    have h2 := p6 sc sb
    have : (A1 * D1 + C1 * B1).natAbs ≤ (A1 * D1).natAbs + (C1 * B1).natAbs := Int.natAbs_add_le _ _
    show (A1 * D1 + C1 * B1).natAbs < 2 ^ 940
    omega
  refine ite2 (fun hc => absurd hc (by decide)) (fun _ => ?_)
  have N1 := E1.same v1
  refine ⟨_, rfl, _, rfl, .ref p, .ref p2, true, true, rfl, frac_ext (N1.off.trans off_incl) f1, frac_ext (N1.off.trans off_incl) f2, (fun z => nomatch z), (fun _ z => nomatch z), fun _ _ => ⟨A1, B1, C1, D1, two N1, fun r2 m2 => ?_⟩⟩
  have E2 := N1.same (sm (o := .tup (lowT (A1 * C1) (B1 * D1))) m2)
  have g2 := extN_tup (E2.off.trans off_incl) hq1
  have k2 := extN_tup (E2.off.trans off_incl) hq2
  refine ⟨_, rfl, p, _, _, _, rfl, rfl, g2, I0, _, rfl, p2, _, _, _, rfl, rfl, k2, J0, _, _, rfl, rfl, wide2 ua uc, _, rfl, p, _, _, _, rfl, rfl, g2, I1, _, rfl, p2, _, _, _, rfl, rfl, k2, J1, _, _, rfl, rfl, wide2 ub ud, r2, _, _, rfl, SqT.of upd_same, pos2 l1 l2, Nat.lt_of_lt_of_le (p6 sa sc) p8, Nat.lt_of_lt_of_le (p6 sb sd) p8, fun W2 v2 => ⟨_, rfl, ?_⟩⟩
  refine ite2 (fun hc => absurd hc (by decide)) (fun _ => ?_)
  have N2 := E2.same v2
  have k9 := extN_tup (N2.off.trans off_incl) hq2
  refine ⟨_, rfl, p2, _, _, _, rfl, rfl, k9, J0, rfl, _, rfl, ?_⟩
  refine ite2 (fun hz => ?_) (fun hz => ?_)
  · have c0 : C1 = 0 := V.int.inj (of_decide_eq_true hz)
    refine ⟨N2.tabs, fun U e u => ?_⟩
    have A6 := N2.lam e u
    refine ⟨_, rfl, _, rfl, .ref p, .ref p2, true, true, rfl, frac_ext (A6.off.trans off_incl) f1, frac_ext (A6.off.trans off_incl) f2, (fun z => nomatch z), (fun _ z => nomatch z), fun _ _ => ⟨A1, B1, C1, D1, two A6, fun _ => Or.inr ⟨rfl, rfl, ?_⟩, fun z => absurd c0 z⟩⟩
    exact q _ (M2.trans A6)
  · have c0 : C1 ≠ 0 := fun z => hz (by rw [z]; rfl)
    refine ⟨_, rfl, _, rfl, .ref p, .ref p2, true, true, rfl, frac_ext (N2.off.trans off_incl) f1, frac_ext (N2.off.trans off_incl) f2, (fun z => nomatch z), (fun _ z => nomatch z), fun _ _ => ⟨A1, B1, C1, D1, two N2, fun z => absurd z c0, fun _ r3 m3 => ?_⟩⟩
    have E3 := N2.same (sm (o := .tup (lowT (A1 * D1) (B1 * C1))) m3)
    have g3 := extN_tup (E3.off.trans off_incl) hq1
    have k3 := extN_tup (E3.off.trans off_incl) hq2
    exact ⟨_, rfl, p, _, _, _, rfl, rfl, g3, I0, _, rfl, p2, _, _, _, rfl, rfl, k3, J1, _, _, rfl, rfl, wide2 ua ud, _, rfl, p, _, _, _, rfl, rfl, g3, I1, _, rfl, p2, _, _, _, rfl, rfl, k3, J0, _, _, rfl, rfl, wide2 ub uc, r3, _, _, rfl, SqT.of upd_same, Int.mul_ne_zero (by omega) c0, Nat.lt_of_lt_of_le (p6 sa sd) p8, Nat.lt_of_lt_of_le (p6 sb sc) p8, fun W3 v3 => q _ (M2.trans (E3.same v3))⟩
end
end VW
/-! K00T -/
set_option maxRecDepth 100000
set_option maxHeartbeats 1000000
namespace VW
open PySem PySem.Spec PyProof.Rows L2 VK LamX
abbrev sfracs : Stmt := topS 39
abbrev NFR : List Str := ["_law_dice_here", "_law_sign", "_law_times", "_law_top", "_law_bottom", "_law_found", "_law_pair", "_law_odd", "_law_told", "_law_bad", "_law_wrong", "_law_value"]
theorem scfracs : FnScope NFR ["_law_dice_here"] (defScope sfracs) := ⟨rfl, rfl, rfl, by decide +kernel, rfl, by decide +kernel, by decide +kernel⟩
theorem tupF {K : PySem.W.Frag} {H : Hp} {t : Addr} {xs : List V} (h : H t = some (.tup xs)) (o : xs.length ≠ 2 ∨ ∃ x y m m', xs = [x, y] ∧ Kd K H x m ∧ Kd K H y m' ∧ false = fracB x y) : FracV K H (.ref t) false :=
  ⟨"tuple", ⟨.base (.tup h), by decide⟩, .inr ⟨rfl, t, xs, rfl, SqT.of h, o.imp (fun z => ⟨z, rfl⟩) id⟩⟩
theorem oddF {K : PySem.W.Frag} {H : Hp} {t0 t1 t2 t3 l4 t5 t6 t7 t8 t9 t10 : Addr} (h0 : H t0 = some (.tup [.int 1, .bl true])) (h1 : H t1 = some (.tup [.bl true, .int 2])) (h2 : H t2 = some (.tup [.int 1])) (h3 : H t3 = some (.tup [.int 1, .int 2, .int 3])) (h4 : H l4 = some (.lst [.int 1, .int 2]))
    (h5 : H t5 = some (.tup [.str "1", .int 2])) (h6 : H t6 = some (.tup [.int 1, .non])) (h7 : H t7 = some (.tup [.int 0, .int 0])) (h8 : H t8 = some (.tup [.int 1, .int (-1)])) (h9 : H t9 = some (.tup [.int 2, .int 4])) (h10 : H t10 = some (.tup [.int 0, .int 2])) :
    ∀ v ∈ [V.ref t0, .ref t1, .ref t2, .ref t3, .ref l4, .ref t5, .ref t6, .ref t7, .ref t8, .ref t9, .ref t10], FracV K H v false := by
  intro v hv
  simp only [List.mem_cons, List.not_mem_nil, or_false] at hv
  rcases hv with rfl | rfl | rfl | rfl | rfl | rfl | rfl | rfl | rfl | rfl | rfl
  · exact tupF h0 (.inr ⟨_, _, "int", "bool", rfl, kd_int, kd_bl true, rfl⟩)
  · exact tupF h1 (.inr ⟨_, _, "bool", "int", rfl, kd_bl true, kd_int, rfl⟩)
  · exact tupF h2 (.inl (by show ¬ (1 : Nat) = 2; decide))
  · exact tupF h3 (.inl (by show ¬ (3 : Nat) = 2; decide))
  · exact ⟨"list", ⟨.base (.lst h4), by decide⟩, .inl ⟨by decide, rfl⟩⟩
  · exact tupF h5 (.inr ⟨_, _, "str", "int", rfl, ⟨.base (.str _), by decide⟩, kd_int, rfl⟩)
  · exact tupF h6 (.inr ⟨_, _, "int", "NoneType", rfl, kd_int, ⟨.base .non, by decide⟩, rfl⟩)
  · exact tupF h7 (.inr ⟨_, _, "int", "int", rfl, kd_int, kd_int, by decide⟩)
  · exact tupF h8 (.inr ⟨_, _, "int", "int", rfl, kd_int, kd_int, by decide⟩)
  · exact tupF h9 (.inr ⟨_, _, "int", "int", rfl, kd_int, kd_int, by decide⟩)
  · exact tupF h10 (.inr ⟨_, _, "int", "int", rfl, kd_int, kd_int, by decide⟩)
/-- a value that can be told -/
structure Tld (K : PySem.W.Frag) (H : Hp) (v : V) (D : PyData) : Prop where
  dr : DR K H v D
  sh : D.showable = true
  dp : D.depth ≤ 60
  sz : D.shown.length ≤ 900
theorem Tld.ext {K : PySem.W.Frag} {H H' : Hp} {v : V} {D : PyData} (b : Tld K H v D) (e : ExtN H H') : Tld K H' v D := ⟨drN e b.dr, b.sh, b.dp, b.sz⟩
theorem num_dr {K : PySem.W.Frag} {T : List (Addr × Str)} {CN : Addr} {d : Addr} {Hb H1 : Hp} {v : V} {D : PyData} {E : XK} (M : Mt T d Hb H1) (b : Tld K (Off d Hb) v D) (cont : ∀ dd H', Mt T d Hb H' → Same H1 H' → H' dd = some (.xd [("value", v)]) → DR K H' v D → E (.ref CN) (some dd) H') : NumE CN v H1 E :=
  fun dd H' s hx _ => cont dd H' (M.same s) s hx (drN ((M.same s).off.trans off_incl) b.dr)
abbrev G60 : Int := (10 : Int) ^ (60 : Int).toNat
theorem big60 : (PyData.int G60).showable = true ∧ (PyData.int G60).depth ≤ 60 ∧ (PyData.int G60).shown.length ≤ 900 := by decide +kernel
theorem big60n : (PyData.int (-G60)).showable = true ∧ (PyData.int (-G60)).depth ≤ 60 ∧ (PyData.int (-G60)).shown.length ≤ 900 := by decide +kernel
theorem badI {K : PySem.W.Frag} {H : Hp} {t l e : Addr} (h0 : H t = some (.tup [.int 1])) (h1 : H l = some (.lst [])) (h2 : H e = some (.dK [])) : ∀ v ∈ [V.non, .bl true, .str "1", .ref t, .ref l, .ref e, .int G60], (∃ D, Tld K H v D) ∧ intV v = false := by
  intro v hv
  simp only [List.mem_cons, List.not_mem_nil, or_false] at hv
  rcases hv with rfl | rfl | rfl | rfl | rfl | rfl | rfl
  · exact ⟨⟨_, .non, by decide +kernel, by decide +kernel, by decide +kernel⟩, rfl⟩
  · exact ⟨⟨_, .bl true, by decide +kernel, by decide +kernel, by decide +kernel⟩, rfl⟩
  · exact ⟨⟨_, .str "1", by decide +kernel, by decide +kernel, by decide +kernel⟩, rfl⟩
  · exact ⟨⟨.tuple [.int 1], .tup (SqT.of h0) (.cons (.int 1) .nil), by decide +kernel, by decide +kernel, by decide +kernel⟩, rfl⟩
  · exact ⟨⟨.list [], .lst (SqL.of h1) .nil, by decide +kernel, by decide +kernel, by decide +kernel⟩, rfl⟩
  · exact ⟨⟨.dict [], .dic h2 .nil, by decide +kernel, by decide +kernel, by decide +kernel⟩, rfl⟩
  · exact ⟨⟨_, .int _, big60.1, big60.2.1, big60.2.2⟩, by decide +kernel⟩
theorem wrongI {K : PySem.W.Frag} {H : Hp} {t l : Addr} (h0 : H t = some (.tup [.int 1])) (h1 : H l = some (.lst [])) : ∀ v ∈ [V.int 0, .non, .bl false, .str "1", .ref t, .ref l, .int (-G60)], (∃ D, Tld K H v D) ∧ (intV v = false ∨ v = .int 0) := by
  intro v hv
  simp only [List.mem_cons, List.not_mem_nil, or_false] at hv
  rcases hv with rfl | rfl | rfl | rfl | rfl | rfl | rfl
  · exact ⟨⟨_, .int 0, by decide +kernel, by decide +kernel, by decide +kernel⟩, .inr rfl⟩
  · exact ⟨⟨_, .non, by decide +kernel, by decide +kernel, by decide +kernel⟩, .inl rfl⟩
  · exact ⟨⟨_, .bl false, by decide +kernel, by decide +kernel, by decide +kernel⟩, .inl rfl⟩
  · exact ⟨⟨_, .str "1", by decide +kernel, by decide +kernel, by decide +kernel⟩, .inl rfl⟩
  · exact ⟨⟨.tuple [.int 1], .tup (SqT.of h0) (.cons (.int 1) .nil), by decide +kernel, by decide +kernel, by decide +kernel⟩, .inl rfl⟩
  · exact ⟨⟨.list [], .lst (SqL.of h1) .nil, by decide +kernel, by decide +kernel, by decide +kernel⟩, .inl rfl⟩
  · exact ⟨⟨_, .int _, big60n.1, big60n.2.1, big60n.2.2⟩, .inl (by decide +kernel)⟩
theorem and_cont {c : Bool} {tb : TE} {σ : L2.St} {H : Hp} {Q : VK} {R : V → Hp → Prop} (cont : ∀ x Hk, R x Hk → Q x Hk) (h1 : c = true → (∀ x Hk, R x Hk → Q x Hk) → tb σ H Q) (h2 : c = false → R (.bl false) H) : if c = true then tb σ H Q else Q (.bl false) H := by
  cases c with
  | true => exact h1 rfl cont
  | false => exact cont _ _ (h2 rfl)
theorem intV_of {i : Int} (h : i.natAbs < 1000000000000000000000000000000000000000000000000000000000000) : intV (.int i) = true := by
  show (decide (-1000000000000000000000000000000000000000000000000000000000000 < i) && decide (i < 1000000000000000000000000000000000000000000000000000000000000)) = true
  rw [Bool.and_eq_true, decide_eq_true_eq, decide_eq_true_eq]
  omega
section
variable {P : Program} {w : World} {K : PySem.W.Frag} {mg : Str → Option Value} {base : Heap} {CN fN CO : Addr}
theorem ok_fracs {T : List (Addr × Str)} {cR pR f fE fP fR fS fA fQ fV : Addr} {fd fdE fdP fdR fdS fdA fdQ fdV : FuncData} (F : FunC K "_law_fractions_right" "_law_fractions_right" sfracs f fd cR)
    (FE : Fun K "_law_error" "_law_error" serr fE fdE) (gE : mg "_law_error" = some (.ref fE)) (bE : L2.Binds K fdE ["_law_call"] [])
    (FP : Fun K "_law_pick" "_law_pick" spick fP fdP) (GP : FnOk P w K mg base L2.CX0 2 fP fdP ["_law_dice_here", "_law_items"] spPick) (gP : mg "_law_pick" = some (.ref fP)) (bP : L2.Binds K fdP ["_law_dice_here", "_law_items"] [])
    (FR : Fun K "_law_roll" "_law_roll" sroll fR fdR) (GR : FnOk P w K mg base L2.CX0 1 fR fdR ["_law_dice_here", "_law_total"] spRoll) (gR : mg "_law_roll" = some (.ref fR)) (bR : L2.Binds K fdR ["_law_dice_here", "_law_total"] [])
    (FS : Fun K "_law_shared" "_law_shared" sshared fS fdS) (GS : FnOk P w K mg base L2.CX0 1 fS fdS ["_law_one", "_law_other"] spShared) (gS : mg "_law_shared" = some (.ref fS)) (bS : L2.Binds K fdS ["_law_one", "_law_other"] [])
    (FA : Fun K "fraction" "fraction" sfrac fA fdA) (GA : FnOk P w K mg base (L2.CX P w) 3 fA fdA ["top", "bottom"] (spFrac CN K)) (gA : mg "fraction" = some (.ref fA)) (bA : L2.Binds K fdA ["top", "bottom"] [])
    (FQ : Fun K "is_fraction" "is_fraction" sfracq fQ fdQ) (GQ : FnOk P w K mg base L2.CX0 2 fQ fdQ ["value"] (spFracQ K)) (gQ : mg "is_fraction" = some (.ref fQ)) (bQ : L2.Binds K fdQ ["value"] [])
    (FV : Fun K "_law_is_value" "_law_is_value" svalue fV fdV) (GV : FnOk P w K mg base L2.CX0 2 fV fdV ["_law_found", "_law_top", "_law_bottom"] (spValue K)) (gV : mg "_law_is_value" = some (.ref fV)) (bV : L2.Binds K fdV ["_law_found", "_law_top", "_law_bottom"] [])
    (B : Blt mg) (Z : Er K mg CN fN CO) (Y : Ex K CN CO) (TB : TabB base mg cR pR) (hmT : (pR, ("_law_fractions_right.<locals>.<lambda>" : Str)) ∈ T) (huT : ∀ p ∈ T, p.1 = pR → p.2 = ("_law_fractions_right.<locals>.<lambda>" : Str)) :
    FnG P w K mg base L2.CX0 7 f fd ["_law_dice_here"] (spRefused T) := by
  refine FunC.okG F scfracs (fun vs H Q E h => ?_) (fun A outer s H vs Q E hg hr h => ?_)
  · obtain ⟨d, rfl, _⟩ := h
    rfl
  obtain ⟨d, rfl, hd, ht, q⟩ := h
  have hr1 : Room 1 _ := hr.mono (by decide)
  have hr2 : Room 2 _ := hr.mono (by decide)
  have hr3 : Room 3 _ := hr.mono (by decide)
  have hu : (A.deeper (PyProof.Rows.envOfC "_law_fractions_right" (defScope sfracs) s.heap.objs.size f (.ref cR))).units + 64 < cLine := hr.units
  have er := fun {params : Arguments} {body : Expr} {scope : Scope} {t : XK → TE} {p lpos pos : Pos} (L : LamS (defScope sfracs) scope) (hdef) (hbind) (hbody) => pe_err (X := cxOf L2.CX0 P w K mg base NFR "_law_fractions_right" (defScope sfracs) f (.ref cR) A outer s H E) (T := T) (params := params) (body := body) (scope := scope) (t := t) (p := p) (lpos := lpos) (pos := pos) hg rfl gE FE bE B Z Y TB rfl hmT huT hr L hdef hbind hbody
  refine ⟨_, (pss_cons (ps_par (i := 1) (j := 2) (by rfl) scfracs.nd rfl rfl (by decide) rfl rfl (pa_cons (pe_call GP hr2 rfl gP FP.kp bP .nil L2.pass0 (pa_cons (pv 0) (pa_cons (pe_lst (pa_cons pe_int (pa_cons (pe_un un_neg pe_int) pa_nil))) pa_nil))) (pa_cons (pe_call GP hr2 rfl gP FP.kp bP .nil L2.pass0 (pa_cons (pv 0) (pa_cons (pe_lst (pa_cons pe_int (pa_cons pe_int (pa_cons pe_int (pa_cons (pe_op op_pow pe_int pe_int) pa_nil))))) pa_nil))) pa_nil)) (by rfl))
  (pss_cons (ps_par (i := 3) (j := 4) (by rfl) scfracs.nd rfl rfl (by decide) rfl rfl (pa_cons (pe_op op_mul (pe_op op_sub (pe_call GR hr1 rfl gR FR.kp bR .nil L2.pass0 (pa_cons (pv 0) (pa_cons pe_int pa_nil))) pe_int) (pv 2)) (pa_cons (pe_op op_mul (pe_op op_mul (pv 1) (pe_op op_add pe_int (pe_call GR hr1 rfl gR FR.kp bR .nil L2.pass0 (pa_cons (pv 0) (pa_cons pe_int pa_nil))))) (pv 2)) pa_nil)) (by rfl))
  (pss_cons (ps_set (i := 5) scfracs.nd rfl (Or.inl rfl) (pe_call GA hr3 rfl gA FA.kp bA .nil pass_none (pa_cons (pv 3) (pa_cons (pv 4) pa_nil))))
  (pss_cons (ps_if (PW.pt (pw_or (pt_not (pt_val (pe_call GV hr2 rfl gV FV.kp bV .nil L2.pass0 (pa_cons (pv 5) (pa_cons (pv 3) (pa_cons (pv 4) pa_nil)))))) (pw_or1 (pt_cmpR op_isnot_bl (pe_call GQ hr2 rfl gQ FQ.kp bQ .nil L2.pass0 (pa_cons (pv 5) pa_nil)) pe_bl (nomark _))))) (pss_one (ps_ret pe_bl)) pss_nil)
  (pss_cons (ps_set (i := 6) scfracs.nd rfl (Or.inl rfl) (pe_tup (pa_cons (pe_op op_sub (pe_call GR hr1 rfl gR FR.kp bR .nil L2.pass0 (pa_cons (pv 0) (pa_cons pe_int pa_nil))) pe_int) (pa_cons (pe_op op_sub (pe_call GR hr1 rfl gR FR.kp bR .nil L2.pass0 (pa_cons (pv 0) (pa_cons pe_int pa_nil))) pe_int) pa_nil))))
  (pss_cons (ps_if (pt_cmpR op_ne (pe_callB (call_reprD hg hu) (by rfl) B.n_repr (by decide +kernel) (pa_cons (pe_call GQ hr2 rfl gQ FQ.kp bQ .nil L2.pass0 (pa_cons (pv 6) pa_nil)) pa_nil)) (pe_callB (call_reprD hg hu) (by rfl) B.n_repr (by decide +kernel) (pa_cons (pe_and (pe_cmpR op_gt (pe_ix ix_tup (pv 6) pe_int (fun _ _ => rfl)) pe_int (nomark _)) (pe_one (pe_cmpR op_eq (pe_call GS hr1 rfl gS FS.kp bS .nil L2.pass0 (pa_cons (pe_callB call_abs (by rfl) B.n_abs (by decide +kernel) (pa_cons (pe_ix ix_tup (pv 6) pe_int (fun _ _ => rfl)) pa_nil)) (pa_cons (pe_ix ix_tup (pv 6) pe_int (fun _ _ => rfl)) pa_nil))) pe_int (nomark _)))) pa_nil)) (nomark _)) (pss_one (ps_ret pe_bl)) pss_nil)
  (pss_cons (ps_set (i := 7) scfracs.nd rfl (Or.inl rfl) (pe_lst (pa_cons (pe_tup (pa_cons pe_int (pa_cons pe_bl pa_nil))) (pa_cons (pe_tup (pa_cons pe_bl (pa_cons pe_int pa_nil))) (pa_cons (pe_tup (pa_cons pe_int pa_nil)) (pa_cons (pe_tup (pa_cons pe_int (pa_cons pe_int (pa_cons pe_int pa_nil)))) (pa_cons (pe_lst (pa_cons pe_int (pa_cons pe_int pa_nil))) (pa_cons (pe_tup (pa_cons pe_str (pa_cons pe_int pa_nil))) (pa_cons (pe_tup (pa_cons pe_int (pa_cons pe_non pa_nil))) (pa_cons (pe_tup (pa_cons pe_int (pa_cons pe_int pa_nil))) (pa_cons (pe_tup (pa_cons pe_int (pa_cons (pe_un un_neg pe_int) pa_nil))) (pa_cons (pe_tup (pa_cons pe_int (pa_cons pe_int pa_nil))) (pa_cons (pe_tup (pa_cons pe_int (pa_cons pe_int pa_nil))) pa_nil)))))))))))))
  (pss_cons (ps_if (pt_cmpR (op_neD hu) (pe_lc (own := [("_law_value", 11)]) (g := gName 11) (tt := tTest (tOp (fun x y H Q => ∃ a b, x = .bl a ∧ y = .bl b ∧ Q (.bl (!decide (a = b))) H) (tCall (spFracQ K) [] L2.E0 (tCons (tVar 11) tNil)) (tC (.bl false)))) rfl scfracs.nd (pi_list (pv 7)) (blkOk_by (N := NFR) (sc := defScope sfracs) (by decide +kernel)) (fun _ _ _ _ _ => pg_name (i := 11) scfracs.nd rfl (Or.inl rfl)) (fun _ _ _ _ _ => (pts_one (pt_cmpR op_isnot_bl (pe_call GQ hr2 rfl gQ FQ.kp bQ .nil L2.pass0 (pa_cons (pv 11) pa_nil)) pe_bl (nomark _)))) (fun _ _ _ _ _ => (pv 11))) (pe_lst pa_nil) (nomark _)) (pss_one (ps_ret pe_bl)) pss_nil)
  (pss_cons (ps_set (i := 9) scfracs.nd rfl (Or.inr rfl) (pe_call GP hr2 rfl gP FP.kp bP .nil L2.pass0 (pa_cons (pv 0) (pa_cons (pe_lst (pa_cons pe_non (pa_cons pe_bl (pa_cons pe_str (pa_cons (pe_tup (pa_cons pe_int pa_nil)) (pa_cons (pe_lst pa_nil) (pa_cons pe_dnewK (pa_cons (pe_op op_pow pe_int pe_int) pa_nil)))))))) pa_nil))))
  (pss_cons (ps_set (i := 10) scfracs.nd rfl (Or.inr rfl) (pe_call GP hr2 rfl gP FP.kp bP .nil L2.pass0 (pa_cons (pv 0) (pa_cons (pe_lst (pa_cons pe_int (pa_cons pe_non (pa_cons pe_bl (pa_cons pe_str (pa_cons (pe_tup (pa_cons pe_int pa_nil)) (pa_cons (pe_lst pa_nil) (pa_cons (pe_un un_neg (pe_op op_pow pe_int pe_int)) pa_nil)))))))) pa_nil))))
  (pss_cons (ps_set (i := 8) scfracs.nd rfl (Or.inl rfl) (pe_lst (pa_cons (er (lamS_by (by decide +kernel)) rfl (fun _ _ _ _ _ => rfl) (fun A outer s H E f c' h4 => pe_callS GA (h4.mono (by decide)) rfl gA FA.kp bA (fun σ => passAt (takes_of rfl rfl rfl rfl) σ) (pa_cons (pv 9) (pa_cons (pv 10) pa_nil)))) pa_nil)))
  (pss_cons (ps_expr (pe_bm PySem.F.plainAttrs_list PySem.F.slot_list_append PySem.F.type_list_append mt_append (pv 8) (pa_cons (er (lamS_by (by decide +kernel)) rfl (fun _ _ _ _ _ => rfl) (fun A outer s H E f c' h4 => pe_callS GA (h4.mono (by decide)) rfl gA FA.kp bA (fun σ => passAt (takes_of rfl rfl rfl rfl) σ) (pa_cons pe_int (pa_cons (pv 10) pa_nil)))) pa_nil)))
  (pss_one (ps_ret (pe_cmpR (op_eqV hu) (pv 8) (pe_lst (pa_cons (pe_op op_add_str pe_str (pe_callB (call_reprD hg hu) (by rfl) B.n_repr (by decide +kernel) (pa_cons (pv 9) pa_nil))) (pa_cons (pe_op op_add_str pe_str (pe_callB (call_reprD hg hu) (by rfl) B.n_repr (by decide +kernel) (pa_cons (pv 10) pa_nil))) pa_nil))) (nomark _)))))))))))))))), ?_⟩
  have p20 : CPow 10 20 := ⟨by decide, by decide, by decide⟩
  have M0 := Mt.refl hd ht
  refine ⟨_, rfl, _, rfl, by show 2 ≤ sizeLine; decide, fun la na => ?_⟩
  have neD : ∀ {Hk : Hp} {x : Addr}, Dice Hk d → Hk x = none → d ≠ x := fun ⟨_, _, _, a⟩ n => ne_of_none a n
  have M1 := M0.same (sm (o := .lst [.int 1, .int (-1)]) na)
  refine ⟨d, la, [.int 1, .int (-1)], rfl, by decide, by decide, M1.dice, upd_same, neD hd na, fun sv H1 hsv R1 => ?_⟩
  have M2 := M1.move (Mv.roll (Mv.refl M1.dice) R1)
  have hs : ∃ sg : Int, sv = .int sg ∧ sg.natAbs = 1 := by
    simp only [List.mem_cons, List.not_mem_nil, or_false] at hsv
    rcases hsv with rfl | rfl
    · exact ⟨_, rfl, by decide⟩
    · exact ⟨_, rfl, by decide⟩
  obtain ⟨sg, rfl, sg1⟩ := hs
  refine ⟨_, rfl, _, _, rfl, rfl, p20, by show 4 ≤ sizeLine; decide, fun lb nb => ?_⟩
  have M3 := M2.same (sm (o := .lst [.int 1, .int 7, .int 12, .int ((10 : Int) ^ (20 : Int).toNat)]) nb)
  refine ⟨d, lb, [.int 1, .int 7, .int 12, .int ((10 : Int) ^ (20 : Int).toNat)], rfl, by show 0 < 4; decide, by show 4 < 1000000; decide, M3.dice, upd_same, neD M2.dice nb, fun tv H2 htv R2 => ⟨_, _, rfl, ?_⟩⟩
  have M4 := M3.move (Mv.roll (Mv.refl M3.dice) R2)
  have hm : ∃ tm : Int, tv = .int tm ∧ 1 ≤ tm ∧ tm ≤ 100000000000000000000 := by
    simp only [List.mem_cons, List.not_mem_nil, or_false] at htv
    rcases htv with rfl | rfl | rfl | rfl
    · exact ⟨_, rfl, by decide, by decide⟩
    · exact ⟨_, rfl, by decide, by decide⟩
    · exact ⟨_, rfl, by decide, by decide⟩
    · exact ⟨_, rfl, by decide +kernel, by decide +kernel⟩
  obtain ⟨tm, rfl, tm1, tm2⟩ := hm
  refine ⟨_, rfl, d, 90, rfl, by decide, by decide, M4.dice, fun r1 H3 k1 R3 => ?_⟩
  have M5 := M4.move (Mv.roll (Mv.refl M4.dice) R3)
  refine ⟨_, _, rfl, rfl, _, rfl, _, _, rfl, rfl, .inl ⟨by omega, by omega⟩, _, rfl, _, rfl, d, 40, rfl, by decide, by decide, M5.dice, fun r2 H4 k2 R4 => ?_⟩
  have M6 := M5.move (Mv.roll (Mv.refl M5.dice) R4)
  have sgb : (sg * (1 + ((r2 : Nat) : Int))).natAbs ≤ 40 := by
    rw [Int.natAbs_mul, sg1]
    omega
  refine ⟨_, _, rfl, rfl, _, _, rfl, rfl, .inl ⟨by omega, by omega⟩, _, rfl, _, _, rfl, rfl, .inl ⟨?_, ?_⟩, _, _, rfl, ?_⟩
  · show -(2 ^ 64) < sg * (1 + ((r2 : Nat) : Int))
    omega
  · show sg * (1 + ((r2 : Nat) : Int)) < 2 ^ 64
    omega
  have tmn : tm.natAbs ≤ 100000000000000000000 := by omega
  have bT : ((((r1 : Nat) : Int) - 40) * tm).natAbs ≤ 50 * 100000000000000000000 := by
    rw [Int.natAbs_mul]
    exact Nat.mul_le_mul (by omega) tmn
  have bB : (sg * (1 + ((r2 : Nat) : Int)) * tm).natAbs ≤ 40 * 100000000000000000000 := by
    rw [Int.natAbs_mul]
    exact Nat.mul_le_mul sgb tmn
  have b0 : sg * (1 + ((r2 : Nat) : Int)) * tm ≠ 0 := Int.mul_ne_zero (Int.mul_ne_zero (by omega) (by omega)) (by omega)
  have iT := intV_of (i := (((r1 : Nat) : Int) - 40) * tm) (by omega)
  have iB := intV_of (i := sg * (1 + ((r2 : Nat) : Int)) * tm) (by omega)
  have p940 : (10000000000000000000000 : Nat) ≤ 2 ^ 940 := by decide +kernel
  refine ⟨_, rfl, _, rfl, _, _, "int", "int", rfl, kd_int, kd_int, (fun z => by rw [iT] at z; cases z), (fun _ z => ?_), fun t b e1 e2 _ _ _ p5 n5 => ?_⟩
  · rcases z with z | z
    · rw [iB] at z
      cases z
    · exact absurd (V.int.inj z) b0
  have e1 : (((r1 : Nat) : Int) - 40) * tm = t := V.int.inj e1
  have e2 : sg * (1 + ((r2 : Nat) : Int)) * tm = b := V.int.inj e2
  subst e1
  subst e2
  have M7 := M6.same (sm (o := .tup (lowT ((((r1 : Nat) : Int) - 40) * tm) (sg * (1 + ((r2 : Nat) : Int)) * tm))) n5)
  refine ⟨_, rfl, _, rfl, _, rfl, p5, _, _, rfl, SqT.of upd_same, b0, ?_, ?_, fun W1 v1 => ⟨_, rfl, ?_⟩⟩
  · show ((((r1 : Nat) : Int) - 40) * tm).natAbs < 2 ^ 940
    omega
  · show (sg * (1 + ((r2 : Nat) : Int)) * tm).natAbs < 2 ^ 940
    omega
  have M8 := M7.same v1
  have tp : SqT K W1 p5 (lowT ((((r1 : Nat) : Int) - 40) * tm) (sg * (1 + ((r2 : Nat) : Int)) * tm)) := sqT_same v1 (SqT.of upd_same)
  have fr5 : FracV K W1 (.ref p5) true := ⟨"tuple", ⟨tyX_tup tp, by decide⟩, .inr ⟨rfl, p5, _, rfl, tp, .inr ⟨_, _, "int", "int", rfl, kd_int, kd_int, by
    have h1 := low_sign (t := (((r1 : Nat) : Int) - 40) * tm) b0
    have h2 := low_one (t := (((r1 : Nat) : Int) - 40) * tm) b0
    show true = (decide (_ ≥ 1) && decide (Nat.gcd _ _ = 1))
    rw [decide_eq_true h1, decide_eq_true h2]
    rfl⟩⟩⟩
  refine ite2 (fun hc => absurd hc (by decide)) (fun _ => ?_)
  refine ⟨_, rfl, .ref p5, true, rfl, fr5, _, _, rfl, rfl, _, rfl, ?_⟩
  refine ite2 (fun hc => absurd hc (by decide)) (fun _ => ?_)
  refine ⟨_, rfl, d, 30, rfl, by decide, by decide, M8.dice, fun r3 H5 k3 R5 => ?_⟩
  have M9 := M8.move (Mv.roll (Mv.refl M8.dice) R5)
  refine ⟨_, _, rfl, rfl, _, rfl, d, 20, rfl, by decide, by decide, M9.dice, fun r4 H6 k4 R6 => ?_⟩
  have M10 := M9.move (Mv.roll (Mv.refl M9.dice) R6)
  refine ⟨_, _, rfl, rfl, by show 2 ≤ sizeLine; decide, fun pp np => ?_⟩
  have M11 := M10.same (sm (o := .tup [.int (((r3 : Nat) : Int) - 15), .int (((r4 : Nat) : Int) - 4)]) np)
  have tq : SqT K (upd H6 pp (.tup [.int (((r3 : Nat) : Int) - 15), .int (((r4 : Nat) : Int) - 4)])) pp [.int (((r3 : Nat) : Int) - 15), .int (((r4 : Nat) : Int) - 4)] := SqT.of upd_same
  have K0 : atI [V.int (((r3 : Nat) : Int) - 15), V.int (((r4 : Nat) : Int) - 4)] 0 = some (.int (((r3 : Nat) : Int) - 15)) := atI_nat (j := 0) rfl
  have K1 : atI [V.int (((r3 : Nat) : Int) - 15), V.int (((r4 : Nat) : Int) - 4)] 1 = some (.int (((r4 : Nat) : Int) - 4)) := atI_nat (j := 1) rfl
  have fq : FracV K (upd H6 pp (.tup [.int (((r3 : Nat) : Int) - 15), .int (((r4 : Nat) : Int) - 4)])) (.ref pp) (fracB (.int (((r3 : Nat) : Int) - 15)) (.int (((r4 : Nat) : Int) - 4))) := ⟨"tuple", ⟨tyX_tup tq, by decide⟩, .inr ⟨rfl, pp, _, rfl, tq, .inr ⟨_, _, "int", "int", rfl, kd_int, kd_int, rfl⟩⟩⟩
  have shB : ∀ b : Bool, (PyData.bool b).showable = true ∧ (PyData.bool b).depth ≤ 60 ∧ (PyData.bool b).shown.length ≤ sizeLine := fun b => ⟨rfl, Nat.zero_le _, Nat.le_trans (by cases b <;> decide +kernel : (PyData.bool b).shown.length ≤ 10) (by decide)⟩
  refine ⟨_, rfl, .ref pp, _, rfl, fq, _, _, rfl, .bl _, (shB _).1, (shB _).2.1, (shB _).2.2, _, rfl, pp, _, _, _, rfl, rfl, tq, K1, _, _, rfl, rfl, _, rfl, ?_⟩
  refine and_cont (R := fun x Hk => x = .bl (fracB (.int (((r3 : Nat) : Int) - 15)) (.int (((r4 : Nat) : Int) - 4))) ∧ Same (upd H6 pp (.tup [.int (((r3 : Nat) : Int) - 15), .int (((r4 : Nat) : Int) - 4)])) Hk) (fun x Hk hx => ?_) (fun hc cont => ?_) (fun hc => ?_)
  · obtain ⟨rfl, v2⟩ := hx
    have M12 := M11.same v2
    refine ⟨_, _, rfl, .bl _, (shB _).1, (shB _).2.1, (shB _).2.2, rfl, _, rfl, ?_⟩
    refine ite2 (fun hc => absurd hc (by simp)) (fun _ => ?_)
    refine ⟨by show 2 ≤ sizeLine; decide, fun t0 n0 => ⟨by show 2 ≤ sizeLine; decide, fun t1 n1 => ⟨by show 1 ≤ sizeLine; decide, fun t2 n2 => ⟨by show 3 ≤ sizeLine; decide, fun t3 n3 => ⟨by show 2 ≤ sizeLine; decide, fun l4 n4 => ⟨by show 2 ≤ sizeLine; decide, fun t5 n5_ => ⟨by show 2 ≤ sizeLine; decide, fun t6 n6 => ⟨by show 2 ≤ sizeLine; decide, fun t7 n7 => ⟨_, rfl, by show 2 ≤ sizeLine; decide, fun t8 n8 => ⟨by show 2 ≤ sizeLine; decide, fun t9 n9 => ⟨by show 2 ≤ sizeLine; decide, fun t10 n10 => ⟨by show 11 ≤ sizeLine; decide, fun lo nL => ?_⟩⟩⟩⟩⟩⟩⟩⟩⟩⟩⟩⟩
    have SS := ((((((((((((sm n0).trans (sm n1)).trans (sm n2)).trans (sm n3)).trans (sm n4)).trans (sm n5_)).trans (sm n6)).trans (sm n7)).trans (sm n8)).trans (sm n9)).trans (sm n10)).trans (sm (o := .lst [V.ref t0, .ref t1, .ref t2, .ref t3, .ref l4, .ref t5, .ref t6, .ref t7, .ref t8, .ref t9, .ref t10]) nL))
    have M13 := M12.same SS
    have OF := oddF (K := K) ((((((((((((sm n1).trans (sm n2)).trans (sm n3)).trans (sm n4)).trans (sm n5_)).trans (sm n6)).trans (sm n7)).trans (sm n8)).trans (sm n9)).trans (sm n10)).trans (sm (o := .lst [V.ref t0, .ref t1, .ref t2, .ref t3, .ref l4, .ref t5, .ref t6, .ref t7, .ref t8, .ref t9, .ref t10]) nL)) _ _ upd_same) (((((((((((sm n2).trans (sm n3)).trans (sm n4)).trans (sm n5_)).trans (sm n6)).trans (sm n7)).trans (sm n8)).trans (sm n9)).trans (sm n10)).trans (sm (o := .lst [V.ref t0, .ref t1, .ref t2, .ref t3, .ref l4, .ref t5, .ref t6, .ref t7, .ref t8, .ref t9, .ref t10]) nL)) _ _ upd_same) ((((((((((sm n3).trans (sm n4)).trans (sm n5_)).trans (sm n6)).trans (sm n7)).trans (sm n8)).trans (sm n9)).trans (sm n10)).trans (sm (o := .lst [V.ref t0, .ref t1, .ref t2, .ref t3, .ref l4, .ref t5, .ref t6, .ref t7, .ref t8, .ref t9, .ref t10]) nL)) _ _ upd_same) (((((((((sm n4).trans (sm n5_)).trans (sm n6)).trans (sm n7)).trans (sm n8)).trans (sm n9)).trans (sm n10)).trans (sm (o := .lst [V.ref t0, .ref t1, .ref t2, .ref t3, .ref l4, .ref t5, .ref t6, .ref t7, .ref t8, .ref t9, .ref t10]) nL)) _ _ upd_same) ((((((((sm n5_).trans (sm n6)).trans (sm n7)).trans (sm n8)).trans (sm n9)).trans (sm n10)).trans (sm (o := .lst [V.ref t0, .ref t1, .ref t2, .ref t3, .ref l4, .ref t5, .ref t6, .ref t7, .ref t8, .ref t9, .ref t10]) nL)) _ _ upd_same) (((((((sm n6).trans (sm n7)).trans (sm n8)).trans (sm n9)).trans (sm n10)).trans (sm (o := .lst [V.ref t0, .ref t1, .ref t2, .ref t3, .ref l4, .ref t5, .ref t6, .ref t7, .ref t8, .ref t9, .ref t10]) nL)) _ _ upd_same) ((((((sm n7).trans (sm n8)).trans (sm n9)).trans (sm n10)).trans (sm (o := .lst [V.ref t0, .ref t1, .ref t2, .ref t3, .ref l4, .ref t5, .ref t6, .ref t7, .ref t8, .ref t9, .ref t10]) nL)) _ _ upd_same) (((((sm n8).trans (sm n9)).trans (sm n10)).trans (sm (o := .lst [V.ref t0, .ref t1, .ref t2, .ref t3, .ref l4, .ref t5, .ref t6, .ref t7, .ref t8, .ref t9, .ref t10]) nL)) _ _ upd_same) ((((sm n9).trans (sm n10)).trans (sm (o := .lst [V.ref t0, .ref t1, .ref t2, .ref t3, .ref l4, .ref t5, .ref t6, .ref t7, .ref t8, .ref t9, .ref t10]) nL)) _ _ upd_same) (((sm n10).trans (sm (o := .lst [V.ref t0, .ref t1, .ref t2, .ref t3, .ref l4, .ref t5, .ref t6, .ref t7, .ref t8, .ref t9, .ref t10]) nL)) _ _ upd_same) ((sm (o := .lst [V.ref t0, .ref t1, .ref t2, .ref t3, .ref l4, .ref t5, .ref t6, .ref t7, .ref t8, .ref t9, .ref t10]) nL) _ _ upd_same)
    refine ⟨_, rfl, lo, rfl, ⟨_, SqL.of upd_same⟩, fun D hD => lc_list (xs := [V.ref t0, .ref t1, .ref t2, .ref t3, .ref l4, .ref t5, .ref t6, .ref t7, .ref t8, .ref t9, .ref t10]) (fun i H' => ∃ Hs, H' = upd Hs D (.lst []) ∧ SqL K Hs lo [V.ref t0, .ref t1, .ref t2, .ref t3, .ref l4, .ref t5, .ref t6, .ref t7, .ref t8, .ref t9, .ref t10] ∧ Hs D = none ∧ Mt T d H Hs ∧ ∀ v ∈ [V.ref t0, .ref t1, .ref t2, .ref t3, .ref l4, .ref t5, .ref t6, .ref t7, .ref t8, .ref t9, .ref t10], FracV K Hs v false) ⟨_, rfl, SqL.of upd_same, hD, M13, OF⟩ (fun i H' _ e => by obtain ⟨Hs, rfl, hl, hn, _⟩ := e; exact (sm hn).seq hl) (fun i x H' hx e => ?_) (fun H' e => ?_)⟩
    · obtain ⟨Hs, rfl, hl, hn, hm, hf⟩ := e
      exact ⟨rfl, _, rfl, x, false, rfl, frac_ext (ExtN.of (sm hn)) (hf x (List.mem_of_getElem? hx)), _, _, rfl, rfl, _, rfl, Hs, rfl, hl, hn, hm, hf⟩
    · obtain ⟨Hs, rfl, hl, hn, hm, hf⟩ := e
      refine ⟨by show 0 ≤ sizeLine; decide, fun D2 hD2 => ⟨.list [], .list [], Dp.lst (SqL.of (sm hD2 _ _ upd_same)) .nil, Dp.lst (SqL.of upd_same) .nil, by decide +kernel, by decide +kernel, _, rfl, ?_⟩⟩
      refine ite2 (fun hc => absurd hc (by decide +kernel)) (fun _ => ?_)
      have M14 := (hm.same (sm (o := .lst []) hn)).same (sm (o := .lst []) hD2)
      generalize upd (upd Hs D (HO.lst [])) D2 (HO.lst []) = Hz at M14 ⊢
      have p60 : CPow 10 60 := ⟨by decide, by decide, by decide⟩
      refine ⟨_, rfl, by show 1 ≤ sizeLine; decide, fun u0 a0 => ⟨by show 0 ≤ sizeLine; decide, fun u1 a1 => fun u2 a2 => ⟨_, _, rfl, rfl, p60, by show 7 ≤ sizeLine; decide, fun lc a3 => ?_⟩⟩⟩
      have S2 := (((sm a0).trans (sm a1)).trans (sm a2)).trans (sm (o := .lst [V.non, .bl true, .str "1", .ref u0, .ref u1, .ref u2, .int G60]) a3)
      have M15 := M14.same S2
      obtain ⟨x1, x2, x3, hdz⟩ := M14.dice
      have z0 : u0 ≠ d := (ne_of_none hdz a0).symm
      have z1 : u1 ≠ d := (ne_of_none ((sm a0) _ _ hdz) a1).symm
      have z2 : u2 ≠ d := (ne_of_none (((sm a0).trans (sm a1)) _ _ hdz) a2).symm
      have z3 : d ≠ lc := ne_of_none ((((sm a0).trans (sm a1)).trans (sm a2)) _ _ hdz) a3
      have BI := badI (K := K) (off_at z0 ((((sm a1).trans (sm a2)).trans (sm (o := .lst [V.non, .bl true, .str "1", .ref u0, .ref u1, .ref u2, .int G60]) a3)) _ _ upd_same)) (off_at z1 (((sm a2).trans (sm (o := .lst [V.non, .bl true, .str "1", .ref u0, .ref u1, .ref u2, .int G60]) a3)) _ _ upd_same)) (off_at z2 ((sm (o := .lst [V.non, .bl true, .str "1", .ref u0, .ref u1, .ref u2, .int G60]) a3) _ _ upd_same))
      refine ⟨d, lc, [V.non, .bl true, .str "1", .ref u0, .ref u1, .ref u2, .int G60], rfl, by show 0 < 7; decide, by show 7 < 1000000; decide, M15.dice, upd_same, z3, fun bv H7 hbv R7 => ?_⟩
      obtain ⟨⟨DB, tB⟩, iB0⟩ := BI bv hbv
      have mv7 := Mv.roll (Mv.refl M15.dice) R7
      have M16 := M15.move mv7
      have tB1 := tB.ext fun b o e _ => mv7.off b o e
      refine ⟨_, rfl, by show 1 ≤ sizeLine; decide, fun u3 a4 => ⟨by show 0 ≤ sizeLine; decide, fun u4 a5 => ⟨_, _, rfl, rfl, p60, _, rfl, by show 7 ≤ sizeLine; decide, fun ld a6 => ?_⟩⟩⟩
      have S3 := ((sm a4).trans (sm a5)).trans (sm (o := .lst [V.int 0, .non, .bl false, .str "1", .ref u3, .ref u4, .int (-G60)]) a6)
      have M17 := M16.same S3
      have tB2 := tB1.ext (off_ext S3)
      obtain ⟨y1, y2, y3, hdy⟩ := M16.dice
      have z4 : u3 ≠ d := (ne_of_none hdy a4).symm
      have z5 : u4 ≠ d := (ne_of_none ((sm a4) _ _ hdy) a5).symm
      have z6 : d ≠ ld := ne_of_none (((sm a4).trans (sm a5)) _ _ hdy) a6
      have WI := wrongI (K := K) (off_at z4 (((sm a5).trans (sm (o := .lst [V.int 0, .non, .bl false, .str "1", .ref u3, .ref u4, .int (-G60)]) a6)) _ _ upd_same)) (off_at z5 ((sm (o := .lst [V.int 0, .non, .bl false, .str "1", .ref u3, .ref u4, .int (-G60)]) a6) _ _ upd_same))
      refine ⟨d, ld, [V.int 0, .non, .bl false, .str "1", .ref u3, .ref u4, .int (-G60)], rfl, by show 0 < 7; decide, by show 7 < 1000000; decide, M17.dice, upd_same, z6, fun wv H8 hwv R8 => ?_⟩
      obtain ⟨⟨DW, tW⟩, iW0⟩ := WI wv hwv
      have mv8 := Mv.roll (Mv.refl M17.dice) R8
      have M18 := M17.move mv8
      have bB := tB2.ext fun b o e _ => mv8.off b o e
      have bW := tW.ext fun b o e _ => mv8.off b o e
      have N0 := Mt.refl M18.dice M18.tabs
      have inc : ∀ {Hk : Hp}, Mt T d H8 Hk → ExtN (Off d H8) Hk := fun M => M.off.trans off_incl
      refine ⟨M18.tabs, fun U0 e0 q0 => ?_⟩
      have A0 := N0.lam e0 q0
      refine ⟨_, rfl, _, rfl, bv, wv, _, _, rfl, dr_kind (drN (inc A0) bB.dr), dr_kind (drN (inc A0) bW.dr), fun _ => ?_, (fun z => by rw [iB0] at z; cases z), fun t b f1 f2 z => by rw [iB0] at z; cases z⟩
      refine num_dr A0 bB fun x9 H9 N1 s9 hx9 dr9 => ?_
      refine Or.inl ⟨rfl, x9, bv, DB, rfl, hx9, dr9, bB.sh, bB.dp, bB.sz, ?_⟩
      refine ⟨by show 1 ≤ sizeLine; decide, fun L nL' => ?_⟩
      have nLo := N1.new nL'
      have neL : d ≠ L := by
        obtain ⟨w1, w2, w3, w4⟩ := N1.dice
        exact ne_of_none w4 nL'
      have N2 := N1.same (sm (o := .lst [.str ("number " ++ DB.shown)]) nL')
      have hL0 : (upd H9 L (.lst [.str ("number " ++ DB.shown)])) L = some (.lst [.str ("number " ++ DB.shown)]) := upd_same
      generalize upd H9 L (HO.lst [V.str (Str.ofString "number " ++ DB.shown)]) = J0 at N2 hL0 ⊢
      refine ⟨_, rfl, .inl ⟨rfl, _, SqL.of hL0⟩, N2.tabs, fun U1 e1 q1 => ?_⟩
      have A1 := N2.lam e1 q1
      refine ⟨_, rfl, .int 1, wv, "int", _, rfl, kd_int, dr_kind (drN (inc A1) bW.dr), (fun z => absurd z (by decide)), fun _ _ => ?_, fun t b f1 f2 _ z b0 => ?_⟩
      · refine num_dr A1 bW fun x10 H10 N3 s10 hx10 dr10 => ?_
        have hV := s10 _ _ (e1 _ _ hL0 fun ps z => nomatch z)
        refine Or.inl ⟨rfl, x10, wv, DW, rfl, hx10, dr10, bW.sh, bW.dp, bW.sz, L, _, _, rfl, rfl, hV, by show 1 < sizeLine; decide, ?_⟩
        have N4 := N3.set (o := .lst ([.str ("number " ++ DB.shown)] ++ [.str ("number " ++ DW.shown)])) nLo neL hV
        have hL1 : (upd H10 L (.lst ([.str ("number " ++ DB.shown)] ++ [.str ("number " ++ DW.shown)]))) L = some (.lst [.str ("number " ++ DB.shown), .str ("number " ++ DW.shown)]) := upd_same
        have e7 : ∀ n : Nat, n ≤ 900 → 7 + n ≤ sizeLine ∧ n ≤ sizeLine := fun n h => ⟨Nat.le_trans (Nat.add_le_add_left h 7) (by decide), Nat.le_trans h (by decide)⟩
        refine ⟨_, rfl, _, rfl, bv, DB, rfl, drN (inc N4) bB.dr, bB.sh, bB.dp, (e7 _ bB.sz).2, _, _, rfl, rfl, (e7 _ bB.sz).1, _, rfl, wv, DW, rfl, drN (inc N4) bW.dr, bW.sh, bW.dp, (e7 _ bW.sz).2, _, _, rfl, rfl, (e7 _ bW.sz).1, by show 2 ≤ sizeLine; decide, fun r9 m9 => ?_⟩
        refine ⟨1, by decide, .inl ⟨L, r9, _, _, rfl, rfl, SqL.of ((sm m9) _ _ hL1), SqL.of upd_same, .cons (.inl ⟨rfl, rfl⟩) (.cons (.inl ⟨rfl, rfl⟩) .nil)⟩, ?_⟩
        exact q _ ((M18.trans N4).same (sm m9))
      · rcases iW0 with y | y
        · rw [y] at z
          cases z
        · rw [y] at f2
          exact absurd (V.int.inj f2).symm b0
  · have y0 : 0 < ((r4 : Nat) : Int) - 4 := by
      have := of_decide_eq_true hc
      omega
    refine ⟨_, rfl, pp, _, _, _, rfl, rfl, tq, K0, _, rfl, _, rfl, pp, _, _, _, rfl, rfl, tq, K1, (((r3 : Nat) : Int) - 15).natAbs, (((r4 : Nat) : Int) - 4).natAbs, ?_, ?_, ?_, fun W2 v2 => ⟨rfl, cont _ _ ⟨?_, v2⟩⟩⟩
    · show [V.int (if ((r3 : Nat) : Int) - 15 < 0 then -(((r3 : Nat) : Int) - 15) else ((r3 : Nat) : Int) - 15), V.int (((r4 : Nat) : Int) - 4)] = _
      have e1 : (if ((r3 : Nat) : Int) - 15 < 0 then -(((r3 : Nat) : Int) - 15) else ((r3 : Nat) : Int) - 15) = (((((r3 : Nat) : Int) - 15).natAbs : Nat) : Int) := by split <;> omega
      have e2 : (((((r4 : Nat) : Int) - 4).natAbs : Nat) : Int) = ((r4 : Nat) : Int) - 4 := by omega
      rw [e1, e2]
    · exact Nat.lt_of_lt_of_le (by omega : _ < 2 ^ 7) (Nat.pow_le_pow_right (by decide) (by decide))
    · exact Nat.lt_of_lt_of_le (by omega : _ < 2 ^ 7) (Nat.pow_le_pow_right (by decide) (by decide))
    · have e : fracB (.int (((r3 : Nat) : Int) - 15)) (.int (((r4 : Nat) : Int) - 4)) = (decide ((((r4 : Nat) : Int) - 4) ≥ 1) && decide (Nat.gcd (((r3 : Nat) : Int) - 15).natAbs (((r4 : Nat) : Int) - 4).natAbs = 1)) := rfl
      rw [e, decide_eq_true (show (((r4 : Nat) : Int) - 4) ≥ 1 by omega), Bool.true_and]
      congr 1
      rw [decide_eq_decide]
      exact ⟨fun z => by have := V.int.inj z; omega, fun z => by rw [z]; rfl⟩
  · have y0 : ¬ (((r4 : Nat) : Int) - 4) ≥ 1 := by
      have := of_decide_eq_false hc
      omega
    refine ⟨?_, Same.refl _⟩
    have e : fracB (.int (((r3 : Nat) : Int) - 15)) (.int (((r4 : Nat) : Int) - 4)) = (decide ((((r4 : Nat) : Int) - 4) ≥ 1) && decide (Nat.gcd (((r3 : Nat) : Int) - 15).natAbs (((r4 : Nat) : Int) - 4).natAbs = 1)) := rfl
    rw [e, decide_eq_false y0, Bool.false_and]
end
end VW
/-! K00U -/
set_option maxRecDepth 100000
set_option maxHeartbeats 1000000
namespace VW
open PySem PySem.Spec PyProof.Rows L2 VK LamX
abbrev smixed : Stmt := topS 29
theorem scmixed : FnScope ["_law_dice_here", "_law_items", "_law_left", "_law_found", "_law_turn"] ["_law_dice_here", "_law_items"] (defScope smixed) := ⟨rfl, rfl, rfl, by decide +kernel, rfl, by decide +kernel, by decide +kernel⟩
def spMixed (K : PySem.W.Frag) : Sp := fun vs H Q _ => ∃ (d l : Addr) (xs : List V), vs = [.ref d, .ref l] ∧ Dice H d ∧ SqL K (Off d H) l xs ∧ xs.length < 1000 ∧ ∀ (r : Addr) (ys : List V) (H' : Hp), ys.Perm xs → Mv d H H' → H' r = some (.lst ys) → r ≠ d → Q (.ref r) H'
theorem idx_nat {k n : Nat} (h : k < n) : seqIndex? (k : Int) n = some k := by
  unfold seqIndex?
  simp
  omega
theorem erase_perm {y : V} : ∀ {ls : List V} {k : Nat}, ls[k]? = some y → (y :: ls.eraseIdx k).Perm ls
  | [], _, h => by cases h
  | a :: r, 0, h => by
    cases h
    exact List.Perm.refl _
  | a :: r, k + 1, h => by
    have e : r[k]? = some y := h
    exact (List.Perm.swap a y _).trans ((erase_perm e).cons a)
theorem perm_erase {xs fs ls : List V} {k : Nat} {y : V} (h : (fs ++ ls).Perm xs) (e : ls[k]? = some y) : ((fs ++ [y]) ++ ls.eraseIdx k).Perm xs := by
  refine List.Perm.trans ?_ h
  rw [List.append_assoc]
  exact List.Perm.append_left fs (erase_perm e)
section
variable {P : Program} {w : World} {K : PySem.W.Frag} {mg : Str → Option Value} {base : Heap}
theorem ok_mixed {f fR : Addr} {fd fdR : FuncData} (F : Fun K "_law_mixed" "_law_mixed" smixed f fd)
    (FR : Fun K "_law_roll" "_law_roll" sroll fR fdR) (GR : FnOk P w K mg base L2.CX0 1 fR fdR ["_law_dice_here", "_law_total"] spRoll) (gR : mg "_law_roll" = some (.ref fR)) (bR : L2.Binds K fdR ["_law_dice_here", "_law_total"] []) (B : Blt mg) (T : Wd mg) :
    FnOk P w K mg base L2.CX0 2 f fd ["_law_dice_here", "_law_items"] (spMixed K) := by
  refine F.ok scmixed (fun vs H Q E h => ?_) (fun cdv A outer s H vs Q E hr h => ?_)
  · obtain ⟨d, l, xs, rfl, _⟩ := h
    rfl
  obtain ⟨d, l, xs, rfl, hd, hl, hx, q⟩ := h
  refine ⟨_, (pss_cons (ps_par (i := 2) (j := 3) (by rfl) scmixed.nd rfl rfl (by decide) rfl rfl (pa_cons (pe_callTy call_list_of (by rfl) T.n_list (by decide +kernel) (pa_cons (pv 1) pa_nil)) (pa_cons (pe_lst pa_nil) pa_nil)) (by rfl))
  (pss_cons (ps_for PassesOwn.never rfl (pi_range1 (by rfl) B.n_range (pa_cons (pe_callB call_len_seq (by rfl) B.n_len (by decide +kernel) (pa_cons (pv 1) pa_nil)) pa_nil)) (pg_name (i := 4) scmixed.nd rfl (Or.inl rfl)) (pss_one (ps_expr (pe_bm PySem.F.plainAttrs_list PySem.F.slot_list_append PySem.F.type_list_append mt_append (pv 3) (pa_cons (pe_bm PySem.F.plainAttrs_list PySem.F.slot_list_pop PySem.F.type_list_pop mt_popAt (pv 2) (pa_cons (pe_call GR hr rfl gR FR.kp bR .nil L2.pass0 (pa_cons (pv 0) (pa_cons (pe_callB call_len_seq (by rfl) B.n_len (by decide +kernel) (pa_cons (pv 2) pa_nil)) pa_nil))) pa_nil)) pa_nil)))))
  (pss_one (ps_ret (pv 3))))), ?_⟩
  have M0 := Mv.refl hd
  refine ⟨_, rfl, l, xs, rfl, .inl (off_in.seq hl), fun L nL => ⟨by show 0 ≤ sizeLine; decide, fun G nG => ⟨_, _, rfl, ?_⟩⟩⟩
  have M1 := M0.same (sm (o := .lst xs) nL)
  have M2 := M1.same (sm (o := .lst []) nG)
  have nLo := M0.new nL
  have nGo := M1.new nG
  have dL := M0.ne nL
  have dG := M1.ne nG
  have LG : L ≠ G := ne_of_none (H := upd H L (.lst xs)) upd_same nG
  have hL2 : (upd (upd H L (.lst xs)) G (.lst [])) L = some (.lst xs) := (upd_ne LG).trans upd_same
  have hG2 : (upd (upd H L (.lst xs)) G (.lst [])) G = some (.lst []) := upd_same
  have hl2 : SqL K (upd (upd H L (.lst xs)) G (.lst [])) l xs := off_in.seq (M2.off.seq hl)
  generalize upd (upd H L (HO.lst xs)) G (HO.lst []) = H2 at M2 hL2 hG2 hl2 ⊢
  refine ⟨_, rfl, l, xs, rfl, .inl hl2, _, rfl, by omega, by omega, for_range (lo := 0) (n := Int.toNat ((xs.length : Nat) : Int)) (fun i σ H' => ∃ (t : Option V) (ls fs : List V), σ = [some (.ref d), some (.ref l), some (.ref L), some (.ref G), t] ∧ H' L = some (.lst ls) ∧ H' G = some (.lst fs) ∧ ls.length + i = xs.length ∧ fs.length = i ∧ (fs ++ ls).Perm xs ∧ Mv d H H') ⟨none, xs, [], rfl, hL2, hG2, rfl, rfl, List.Perm.refl _, M2⟩ (fun i σ H' hi pv => ?_) (fun σ H' pv => ?_)⟩
  · obtain ⟨t, ls, fs, rfl, h1, h2, l1, l2, pm, M⟩ := pv
    have hi' : i < xs.length := by omega
    refine ⟨_, rfl, .inl ⟨rfl, _, SqL.of h2⟩, _, rfl, .inl ⟨rfl, _, SqL.of h1⟩, _, rfl, _, rfl, L, ls, rfl, .inl (SqL.of h1), d, ls.length, rfl, by omega, by omega, M.dice, fun r H3 lr R => ?_⟩
    have h31 : H3 L = some (.lst ls) := by
      obtain ⟨a, b, c, rfl⟩ := R
      exact (upd_ne dL.symm).trans h1
    have h32 : H3 G = some (.lst fs) := by
      obtain ⟨a, b, c, rfl⟩ := R
      exact (upd_ne dG.symm).trans h2
    have M3 := M.roll R
    refine ⟨L, ls, _, r, ls[r], rfl, rfl, h31, by omega, by omega, idx_nat lr, List.getElem?_eq_getElem lr, ?_⟩
    have M4 := M3.set (o := .lst (ls.eraseIdx r)) nLo dL
    refine ⟨G, fs, _, rfl, rfl, (upd_ne LG.symm).trans h32, ?_, ?_⟩
    · have : (1000 : Nat) < sizeLine := by decide
      omega
    · have M5 := M4.set (o := .lst (fs ++ [ls[r]])) nGo dG
      refine ⟨_, ls.eraseIdx r, fs ++ [ls[r]], rfl, (upd_ne LG).trans upd_same, upd_same, ?_, ?_, perm_erase pm (List.getElem?_eq_getElem lr), M5⟩
      · rw [List.length_eraseIdx_of_lt lr]
        omega
      · rw [List.length_append, l2]
        rfl
  · obtain ⟨t, ls, fs, rfl, h1, h2, l1, l2, pm, M⟩ := pv
    have e : ls = [] := List.length_eq_zero_iff.mp (by omega)
    rw [e, List.append_nil] at pm
    exact ⟨_, rfl, q G fs _ pm M h2 dG.symm⟩
end
end VW
/-! K00V -/
set_option maxRecDepth 100000
set_option maxHeartbeats 1000000
namespace VW
open PySem PySem.Spec PyProof.Rows L2 VK LamX
/-- a whole number has at most sixty figures just below ten to the sixtieth -/
theorem str_len60 (m : Nat) : (Str.ofString (toString ((m : Nat) : Int))).length ≤ 60 ↔ m < 10 ^ 60 := by
  rw [PyProof.Rows.ofString_len]
  exact Nat.length_repr_le_iff (by decide)
theorem short_int {i : Int} : decide ((Str.ofString (toString ((i.natAbs : Nat) : Int))).length ≤ 60) = intV (.int i) := by
  have e : intV (.int i) = (decide (-1000000000000000000000000000000000000000000000000000000000000 < i) && decide (i < 1000000000000000000000000000000000000000000000000000000000000)) := rfl
  have t : (10 : Nat) ^ 60 = 1000000000000000000000000000000000000000000000000000000000000 := by decide +kernel
  rw [e, ← Bool.decide_and, decide_eq_decide, str_len60, t]
  omega
end VW
/-! K00W -/
set_option maxRecDepth 100000
set_option maxHeartbeats 1000000
namespace VW
open PySem PySem.Spec PyProof.Rows L2 VK LamX
abbrev swords : Stmt := topS 35
abbrev NWO : List Str := ["_law_dice_here", "_law_number", "_law_word", "_law_is_short", "_law_told", "_law_words", "_law_some", "_law_odd", "_law_due", "_law_bad", "_law_index", "_law_turn", "_law_one"]
theorem scwords : FnScope NWO ["_law_dice_here"] (defScope swords) := ⟨rfl, rfl, rfl, by decide +kernel, rfl, by decide +kernel, by decide +kernel⟩
theorem names_ext {K : PySem.W.Frag} {H H' : Hp} {v : V} {b : Bool} (e : ExtN H H') (h : NamesV K H v b) : NamesV K H' v b := by
  obtain ⟨n, k, o⟩ := h
  refine ⟨n, kd_ext e k, ?_⟩
  rcases o with o | ⟨o, p, xs, hv, ht, hl, hg, hb⟩
  · exact .inl o
  · exact .inr ⟨o, p, xs, hv, extN_tup e ht, hl, fun x hx => by
      obtain ⟨m, k2, z⟩ := hg x hx
      exact ⟨m, kd_ext e k2, z⟩, hb⟩
/-- a value that is nothing of what is asked -/
structure Odd (K : PySem.W.Frag) (H : Hp) (v : V) : Prop where
  kd : ∃ n, Kd K H v n
  i : intV v = false
  c : countV v = false
  m : nameV v = false
  z : ∀ z, v = .str z → z.length ≤ sizeLine
  nm : NamesV K H v false
  fr : FracV K H v false
theorem Odd.ext {K : PySem.W.Frag} {H H' : Hp} {v : V} (o : Odd K H v) (e : ExtN H H') : Odd K H' v := by
  obtain ⟨⟨n, k⟩, i, c, m, z, nm, fr⟩ := o
  exact ⟨⟨n, kd_ext e k⟩, i, c, m, z, names_ext e nm, frac_ext e fr⟩
theorem odd_flat {K : PySem.W.Frag} {H : Hp} {v : V} {n : String} (k : Kd K H v n) (ne : n ≠ "tuple") (i : intV v = false) (c : countV v = false) (m : nameV v = false) (z : ∀ z, v = .str z → z.length ≤ sizeLine) : Odd K H v :=
  ⟨⟨n, k⟩, i, c, m, z, ⟨n, k, .inl ⟨ne, rfl⟩⟩, ⟨n, k, .inl ⟨ne, rfl⟩⟩⟩
theorem odd_tup {K : PySem.W.Frag} {H : Hp} {t : Addr} {xs : List V} (h : H t = some (.tup xs)) (l : xs.length < sizeLine) (g : ∀ x ∈ xs, GoodN K H x) (a : false = xs.all nameV) (f : xs.length ≠ 2 ∨ ∃ x y m m', xs = [x, y] ∧ Kd K H x m ∧ Kd K H y m' ∧ false = fracB x y) : Odd K H (.ref t) :=
  ⟨⟨"tuple", ⟨.base (.tup h), by decide⟩⟩, rfl, rfl, rfl, (fun z e => nomatch e), ⟨"tuple", ⟨.base (.tup h), by decide⟩, .inr ⟨rfl, t, xs, rfl, SqT.of h, l, g, a⟩⟩, tupF h f⟩
theorem odds {K : PySem.W.Frag} {H : Hp} {l0 l1 e2 t3 t4 t5 l6 t7 t8 : Addr} (h0 : H l0 = some (.lst [.int 0])) (h1 : H l1 = some (.lst [])) (h2 : H e2 = some (.dK [])) (h3 : H t3 = some (.tup [.non])) (h4 : H t4 = some (.tup [.str ""])) (h5 : H t5 = some (.tup [.str "a", .int 1])) (h6 : H l6 = some (.lst [.str "a"]))
    (h7 : H t7 = some (.tup [.int 0, .str "1"])) (h8 : H t8 = some (.tup [.bl false])) : ∀ v ∈ [V.non, .bl true, .bl false, .ref l0, .ref l1, .ref e2, .ref t3, .ref t4, .ref t5, .ref l6, .str "", .str "a b", .ref t7, .ref t8], Odd K H v := by
  have gs : ∀ x : Str, x.length ≤ 10 → GoodN K H (.str x) := fun x hx => ⟨"str", ⟨.base (.str _), by decide⟩, fun z e => by cases e; exact Nat.le_trans hx (by decide)⟩
  have gn : ∀ {x : V} {m : String}, Kd K H x m → (∀ z, x = .str z → False) → GoodN K H x := fun k no => ⟨_, k, fun z e => (no z e).elim⟩
  have kn : Kd K H .non "NoneType" := ⟨.base .non, by decide⟩
  have ks : ∀ x : Str, Kd K H (.str x) "str" := fun x => ⟨.base (.str _), by decide⟩
  have sl : ∀ {n : Nat}, n ≤ 10 → n < sizeLine := fun h => Nat.lt_of_le_of_lt h (by decide)
  intro v hv
  simp only [List.mem_cons, List.not_mem_nil, or_false] at hv
  rcases hv with rfl | rfl | rfl | rfl | rfl | rfl | rfl | rfl | rfl | rfl | rfl | rfl | rfl | rfl
  · exact odd_flat kn (by decide) rfl rfl rfl fun z e => nomatch e
  · exact odd_flat (kd_bl true) (by decide) rfl rfl rfl fun z e => nomatch e
  · exact odd_flat (kd_bl false) (by decide) rfl rfl rfl fun z e => nomatch e
  · exact odd_flat (n := "list") ⟨.base (.lst h0), by decide⟩ (by decide) rfl rfl rfl fun z e => nomatch e
  · exact odd_flat (n := "list") ⟨.base (.lst h1), by decide⟩ (by decide) rfl rfl rfl fun z e => nomatch e
  · exact odd_flat (n := "dict") ⟨.base (.dK h2), by decide⟩ (by decide) rfl rfl rfl fun z e => nomatch e
  · refine odd_tup h3 (sl (by decide)) (fun x hx => ?_) rfl (.inl (by decide))
    rw [List.mem_singleton.mp hx]
    exact gn kn fun z e => nomatch e
  · refine odd_tup h4 (sl (by decide)) (fun x hx => ?_) (by decide +kernel) (.inl (by decide))
    rw [List.mem_singleton.mp hx]
    exact gs _ (by decide)
  · refine odd_tup h5 (sl (by decide)) (fun x hx => ?_) (by decide +kernel) (.inr ⟨_, _, "str", "int", rfl, ks _, kd_int, rfl⟩)
    rcases List.mem_cons.mp hx with rfl | hx
    · exact gs _ (by decide)
    · rw [List.mem_singleton.mp hx]
      exact gn kd_int fun z e => nomatch e
  · exact odd_flat (n := "list") ⟨.base (.lst h6), by decide⟩ (by decide) rfl rfl rfl fun z e => nomatch e
  · exact odd_flat (ks _) (by decide) rfl rfl (by decide +kernel) fun z e => by cases e; decide
  · exact odd_flat (ks _) (by decide) rfl rfl (by decide +kernel) fun z e => by cases e; decide
  · refine odd_tup h7 (sl (by decide)) (fun x hx => ?_) (by decide +kernel) (.inr ⟨_, _, "int", "str", rfl, kd_int, ks _, rfl⟩)
    rcases List.mem_cons.mp hx with rfl | hx
    · exact gn kd_int fun z e => nomatch e
    · rw [List.mem_singleton.mp hx]
      exact gs _ (by decide)
  · refine odd_tup h8 (sl (by decide)) (fun x hx => ?_) rfl (.inl (by decide))
    rw [List.mem_singleton.mp hx]
    exact gn (kd_bl false) fun z e => nomatch e
theorem if_cont {c : Bool} {ta tb : TE} {σ : L2.St} {H : Hp} {Q : VK} {R : V → Hp → Prop} (cont : ∀ x Hk, R x Hk → Q x Hk) (h1 : c = true → (∀ x Hk, R x Hk → Q x Hk) → ta σ H Q) (h2 : c = false → (∀ x Hk, R x Hk → Q x Hk) → tb σ H Q) : if c = true then ta σ H Q else tb σ H Q := by
  cases c with
  | true => exact h1 rfl cont
  | false => exact h2 rfl cont
theorem err_cont {K : PySem.W.Frag} {CN CO : Addr} {tl : XK → Hp → VK → Prop} {H : Hp} {Q : VK} {R : V → Hp → Prop} (cont : ∀ x Hk, R x Hk → Q x Hk) (h : (∀ x Hk, R x Hk → Q x Hk) → TTerr K CN CO tl H Q) : TTerr K CN CO tl H Q := h cont
/-- what is due for an index -/
def dueS (j : Int) : Str := if j < 702 then "fine" else "number " ++ (PyData.int j).shown
theorem small_shown {j : Int} (h0 : 0 ≤ j) (h : j ≤ 800) : (PyData.int j).showable = true ∧ (PyData.int j).depth ≤ 60 ∧ (PyData.int j).shown.length ≤ 900 := by
  have a : ∀ n : Fin 801, (PyData.int ((n.val : Nat) : Int)).showable = true ∧ (PyData.int ((n.val : Nat) : Int)).depth ≤ 60 ∧ (PyData.int ((n.val : Nat) : Int)).shown.length ≤ 900 := by decide +kernel
  have b := a ⟨j.toNat, by omega⟩
  have e : ((j.toNat : Nat) : Int) = j := by omega
  rw [e] at b
  exact b
theorem nthBad {K : PySem.W.Frag} {H : Hp} {t l e : Addr} (h0 : H t = some (.tup [.int 1])) (h1 : H l = some (.lst [])) (h2 : H e = some (.dK [])) : ∀ v ∈ [V.non, .bl true, .str "1", .int (-1), .ref t, .ref l, .ref e, .int G60, .int 702], (∃ D, Tld K H v D) ∧ nthOk v = false := by
  intro v hv
  simp only [List.mem_cons, List.not_mem_nil, or_false] at hv
  rcases hv with rfl | rfl | rfl | rfl | rfl | rfl | rfl | rfl | rfl
  · exact ⟨⟨_, .non, by decide +kernel, by decide +kernel, by decide +kernel⟩, rfl⟩
  · exact ⟨⟨_, .bl true, by decide +kernel, by decide +kernel, by decide +kernel⟩, rfl⟩
  · exact ⟨⟨_, .str "1", by decide +kernel, by decide +kernel, by decide +kernel⟩, rfl⟩
  · exact ⟨⟨_, .int (-1), by decide +kernel, by decide +kernel, by decide +kernel⟩, by decide +kernel⟩
  · exact ⟨⟨.tuple [.int 1], .tup (SqT.of h0) (.cons (.int 1) .nil), by decide +kernel, by decide +kernel, by decide +kernel⟩, rfl⟩
  · exact ⟨⟨.list [], .lst (SqL.of h1) .nil, by decide +kernel, by decide +kernel, by decide +kernel⟩, rfl⟩
  · exact ⟨⟨.dict [], .dic h2 .nil, by decide +kernel, by decide +kernel, by decide +kernel⟩, rfl⟩
  · exact ⟨⟨_, .int _, big60.1, big60.2.1, big60.2.2⟩, by decide +kernel⟩
  · exact ⟨⟨_, .int 702, by decide +kernel, by decide +kernel, by decide +kernel⟩, by decide +kernel⟩
theorem nthOk_idx {j : Int} (h0 : 0 ≤ j) (h : j ≤ 800) : nthOk (.int j) = decide (j < 702) := by
  have hi : intV (.int j) = true := intV_of (by omega)
  show ((intV (.int j) && decide (0 ≤ j)) && !decide (j ≥ 702)) = decide (j < 702)
  rw [hi, decide_eq_true h0, Bool.true_and, Bool.true_and, ← decide_not, decide_eq_decide]
  omega
theorem bad_none (ws : List Str) : (ws.filter fun y => !nameS y).isEmpty = (ws.map V.str).all nameV := by
  induction ws with
  | nil => rfl
  | cons y r ih =>
    rw [List.filter_cons, List.map_cons, List.all_cons]
    show _ = (nameS y && (r.map V.str).all nameV)
    cases nameS y with
    | true => rw [Bool.true_and, ← ih]; rfl
    | false => rfl
theorem _root_.LamX.ExtN.tupT {K : PySem.W.Frag} {H H' : Hp} {a : Addr} {xs : List V} (e : ExtN H H') (h : SqT K H a xs) : SqT K H' a xs := extN_tup e h
section
variable {P : Program} {w : World} {K : PySem.W.Frag} {mg : Str → Option Value} {base : Heap} {CN fN CO : Addr}
theorem ok_words {T : List (Addr × Str)} {cR pR f fE fP fR fI fW fL fi fc fn fs fq fh fx : Addr} {fd fdE fdP fdR fdI fdW fdL fdi fdc fdn fds fdq fdh fdx : FuncData} (F : FunC K "_law_words_right" "_law_words_right" swords f fd cR)
    (FE : Fun K "_law_error" "_law_error" serr fE fdE) (gE : mg "_law_error" = some (.ref fE)) (bE : L2.Binds K fdE ["_law_call"] [])
    (FP : Fun K "_law_pick" "_law_pick" spick fP fdP) (GP : FnOk P w K mg base L2.CX0 2 fP fdP ["_law_dice_here", "_law_items"] spPick) (gP : mg "_law_pick" = some (.ref fP)) (bP : L2.Binds K fdP ["_law_dice_here", "_law_items"] [])
    (FR : Fun K "_law_roll" "_law_roll" sroll fR fdR) (GR : FnOk P w K mg base L2.CX0 1 fR fdR ["_law_dice_here", "_law_total"] spRoll) (gR : mg "_law_roll" = some (.ref fR)) (bR : L2.Binds K fdR ["_law_dice_here", "_law_total"] [])
    (FI : Fun K "_law_any_integer" "_law_any_integer" sanyi fI fdI) (GI : FnOk P w K mg base L2.CX0 3 fI fdI ["_law_dice_here"] spAnyI) (gI : mg "_law_any_integer" = some (.ref fI)) (bI : L2.Binds K fdI ["_law_dice_here"] [])
    (FW : Fun K "_law_any_word" "_law_any_word" swordA fW fdW) (GW : FnOk P w K mg base L2.CX0 2 fW fdW ["_law_dice_here"] spWord) (gW : mg "_law_any_word" = some (.ref fW)) (bW : L2.Binds K fdW ["_law_dice_here"] [])
    (FL : Fun K "_law_lettered" "_law_lettered" slettered fL fdL) (GL : FnOk P w K mg base L2.CX0 1 fL fdL ["_law_value"] spLettered) (gL : mg "_law_lettered" = some (.ref fL)) (bL : L2.Binds K fdL ["_law_value"] [])
    (Fi : Fun K "is_integer" "is_integer" sinteger fi fdi) (Gi : FnOk P w K mg base L2.CX0 2 fi fdi ["value"] (spTest K intV)) (gi : mg "is_integer" = some (.ref fi)) (bi : L2.Binds K fdi ["value"] [])
    (Fc : Fun K "is_count" "is_count" scount fc fdc) (Gc : FnOk P w K mg base L2.CX0 3 fc fdc ["value"] (spTest K countV)) (gc : mg "is_count" = some (.ref fc)) (bc : L2.Binds K fdc ["value"] [])
    (Fn : Fun K "is_name" "is_name" sname fn fdn) (Gn : FnOk P w K mg base L2.CX0 1 fn fdn ["value"] (spName K)) (gn : mg "is_name" = some (.ref fn)) (bn : L2.Binds K fdn ["value"] [])
    (Fs : Fun K "are_names" "are_names" snames fs fds) (Gs : FnOk P w K mg base L2.CX0 2 fs fds ["value"] (spNames K)) (gs : mg "are_names" = some (.ref fs)) (bs : L2.Binds K fds ["value"] [])
    (Fq : Fun K "is_fraction" "is_fraction" sfracq fq fdq) (Gq : FnOk P w K mg base L2.CX0 2 fq fdq ["value"] (spFracQ K)) (gq : mg "is_fraction" = some (.ref fq)) (bq : L2.Binds K fdq ["value"] [])
    (Fh : Fun K "nth_name" "nth_name" snthn fh fdh) (Gh : FnOk P w K mg base (L2.CX P w) 4 fh fdh ["index"] (spNth K CN)) (gh : mg "nth_name" = some (.ref fh)) (bh : L2.Binds K fdh ["index"] [])
    (Fx : Fun K "_law_nth" "_law_nth" snth fx fdx) (Gx : FnOk P w K mg base L2.CX0 1 fx fdx ["_law_index"] spLawNth) (gx : mg "_law_nth" = some (.ref fx)) (bx : L2.Binds K fdx ["_law_index"] [])
    (B : Blt mg) (Wt : Wd mg) (Z : Er K mg CN fN CO) (Y : Ex K CN CO) (TB : TabB base mg cR pR) (hmT : (pR, ("_law_words_right.<locals>.<lambda>" : Str)) ∈ T) (huT : ∀ p ∈ T, p.1 = pR → p.2 = ("_law_words_right.<locals>.<lambda>" : Str)) :
    FnG P w K mg base L2.CX0 7 f fd ["_law_dice_here"] (spRefused T) := by
  refine FunC.okG F scwords (fun vs H Q E h => ?_) (fun A outer s H vs Q E hg hr h => ?_)
  · obtain ⟨d, rfl, _⟩ := h
    rfl
  obtain ⟨d, rfl, hd, ht, q⟩ := h
  have hr1 : Room 1 _ := hr.mono (by decide)
  have hr2 : Room 2 _ := hr.mono (by decide)
  have hr3 : Room 3 _ := hr.mono (by decide)
  have hr4 : Room 4 _ := hr.mono (by decide)
  have hu : (A.deeper (PyProof.Rows.envOfC "_law_words_right" (defScope swords) s.heap.objs.size f (.ref cR))).units + 64 < cLine := hr.units
  have er := fun {params : Arguments} {body : Expr} {scope : Scope} {t : XK → TE} {p lpos pos : Pos} (L : LamS (defScope swords) scope) (hdef) (hbind) (hbody) => pe_err (X := cxOf L2.CX0 P w K mg base NWO "_law_words_right" (defScope swords) f (.ref cR) A outer s H E) (T := T) (params := params) (body := body) (scope := scope) (t := t) (p := p) (lpos := lpos) (pos := pos) hg rfl gE FE bE B Z Y TB rfl hmT huT hr L hdef hbind hbody
  refine ⟨_, (pss_cons (ps_par (i := 1) (j := 2) (by rfl) scwords.nd rfl rfl (by decide) rfl rfl (pa_cons (pe_call GI hr3 rfl gI FI.kp bI .nil L2.pass0 (pa_cons (pv 0) pa_nil)) (pa_cons (pe_call GW hr2 rfl gW FW.kp bW .nil L2.pass0 (pa_cons (pv 0) pa_nil)) pa_nil)) (by rfl))
  (pss_cons (ps_set (i := 3) scwords.nd rfl (Or.inl rfl) (pe_cmpR op_le (pe_callB call_len_str (by rfl) B.n_len (by decide +kernel) (pa_cons (pe_callTy call_str_int (by rfl) Wt.n_str (by decide +kernel) (pa_cons (pe_callB call_abs (by rfl) B.n_abs (by decide +kernel) (pa_cons (pv 1) pa_nil)) pa_nil)) pa_nil)) pe_int (nomark _)))
  (pss_cons (ps_set (i := 4) scwords.nd rfl (Or.inl rfl) (pe_lst (pa_cons (pe_call Gi hr2 rfl gi Fi.kp bi .nil L2.pass0 (pa_cons (pv 1) pa_nil)) (pa_cons (pe_call Gc hr3 rfl gc Fc.kp bc .nil L2.pass0 (pa_cons (pv 1) pa_nil)) (pa_cons (pe_call Gn hr1 rfl gn Fn.kp bn .nil L2.pass0 (pa_cons (pv 2) pa_nil)) pa_nil)))))
  (pss_cons (ps_if (pt_cmpR op_ne (pe_callB (call_reprD hg hu) (by rfl) B.n_repr (by decide +kernel) (pa_cons (pv 4) pa_nil)) (pe_callB (call_reprD hg hu) (by rfl) B.n_repr (by decide +kernel) (pa_cons (pe_lst (pa_cons (pv 3) (pa_cons (pe_and (pv 3) (pe_one (pe_cmpR op_ge (pv 1) pe_int (nomark _)))) (pa_cons (pe_call GL hr1 rfl gL FL.kp bL .nil L2.pass0 (pa_cons (pv 2) pa_nil)) pa_nil)))) pa_nil)) (nomark _)) (pss_one (ps_ret pe_bl)) pss_nil)
  (pss_cons (ps_set (i := 5) scwords.nd rfl (Or.inl rfl) (pe_callTy call_tuple_of (by rfl) Wt.n_tuple (by decide +kernel) (pa_cons (pe_lc (own := [("_law_turn", 11)]) (g := gName 11) (tt := tYes) rfl scwords.nd (pi_range1 rfl B.n_range (pa_cons (pe_call GR hr1 rfl gR FR.kp bR .nil L2.pass0 (pa_cons (pv 0) (pa_cons pe_int pa_nil))) pa_nil)) (blkOk_by (N := NWO) (sc := defScope swords) (by decide +kernel)) (fun _ _ _ _ _ => pg_name (i := 11) scwords.nd rfl (Or.inl rfl)) (fun _ _ _ _ _ => pts_nil) (fun _ _ _ _ _ => pe_call GW hr2 rfl gW FW.kp bW .nil L2.pass0 (pa_cons (pv 0) pa_nil))) pa_nil)))
  (pss_cons (ps_if (pt_cmpR op_ne (pe_callB (call_reprD hg hu) (by rfl) B.n_repr (by decide +kernel) (pa_cons (pe_call Gs hr2 rfl gs Fs.kp bs .nil L2.pass0 (pa_cons (pv 5) pa_nil)) pa_nil)) (pe_callB (call_reprD hg hu) (by rfl) B.n_repr (by decide +kernel) (pa_cons (pe_cmpR (op_eqD hu) (pe_lc (own := [("_law_one", 12)]) (g := gName 12) (tt := tNot (tB (tCall spLettered [] L2.E0 (tCons (tVar 12) tNil)))) rfl scwords.nd (pi_tup (pv 5)) (blkOk_by (N := NWO) (sc := defScope swords) (by decide +kernel)) (fun _ _ _ _ _ => pg_name (i := 12) scwords.nd rfl (Or.inl rfl)) (fun _ _ _ _ _ => pts_one (pt_not (pt_val (pe_call GL hr1 rfl gL FL.kp bL .nil L2.pass0 (pa_cons (pv 12) pa_nil))))) (fun _ _ _ _ _ => pv 12)) (pe_lst pa_nil) (nomark _)) pa_nil)) (nomark _)) (pss_one (ps_ret pe_bl)) pss_nil)
  (pss_cons (ps_set (i := 6) scwords.nd rfl (Or.inl rfl) (pe_lst (pa_cons pe_non (pa_cons pe_bl (pa_cons pe_bl (pa_cons (pe_lst (pa_cons pe_int pa_nil)) (pa_cons (pe_lst pa_nil) (pa_cons pe_dnewK (pa_cons (pe_tup (pa_cons pe_non pa_nil)) (pa_cons (pe_tup (pa_cons pe_str pa_nil)) (pa_cons (pe_tup (pa_cons pe_str (pa_cons pe_int pa_nil))) (pa_cons (pe_lst (pa_cons pe_str pa_nil)) (pa_cons pe_str (pa_cons pe_str (pa_cons (pe_tup (pa_cons pe_int (pa_cons pe_str pa_nil))) (pa_cons (pe_tup (pa_cons pe_bl pa_nil)) pa_nil))))))))))))))))
  (pss_cons (ps_set (i := 7) scwords.nd rfl (Or.inl rfl) (pe_call GP hr2 rfl gP FP.kp bP .nil L2.pass0 (pa_cons (pv 0) (pa_cons (pv 6) pa_nil))))
  (pss_cons (ps_if (pt_cmpR (op_neD hu) (pe_lst (pa_cons (pe_call Gi hr2 rfl gi Fi.kp bi .nil L2.pass0 (pa_cons (pv 7) pa_nil)) (pa_cons (pe_call Gc hr3 rfl gc Fc.kp bc .nil L2.pass0 (pa_cons (pv 7) pa_nil)) (pa_cons (pe_call Gn hr1 rfl gn Fn.kp bn .nil L2.pass0 (pa_cons (pv 7) pa_nil)) (pa_cons (pe_call Gs hr2 rfl gs Fs.kp bs .nil L2.pass0 (pa_cons (pv 7) pa_nil)) (pa_cons (pe_call Gq hr2 rfl gq Fq.kp bq .nil L2.pass0 (pa_cons (pv 7) pa_nil)) pa_nil)))))) (pe_op op_rep (pe_lst (pa_cons pe_bl pa_nil)) pe_int) (nomark _)) (pss_one (ps_ret pe_bl)) pss_nil)
  (pss_cons (ps_set (i := 10) scwords.nd rfl (Or.inr rfl) (pe_op op_add (pe_call GP hr2 rfl gP FP.kp bP .nil L2.pass0 (pa_cons (pv 0) (pa_cons (pe_lst (pa_cons pe_int (pa_cons pe_int (pa_cons pe_int (pa_cons pe_int (pa_cons pe_int (pa_cons pe_int pa_nil))))))) pa_nil))) (pe_call GR hr1 rfl gR FR.kp bR .nil L2.pass0 (pa_cons (pv 0) (pa_cons pe_int pa_nil)))))
  (pss_cons (ps_set (i := 8) scwords.nd rfl (Or.inl rfl) (pe_ifExp (pt_cmpR op_lt (pv 10) pe_int (nomark _)) pe_str (pe_op op_add_str pe_str (pe_callB (call_reprD hg hu) (by rfl) B.n_repr (by decide +kernel) (pa_cons (pv 10) pa_nil)))))
  (pss_cons (ps_set (i := 9) scwords.nd rfl (Or.inr rfl) (pe_call GP hr2 rfl gP FP.kp bP .nil L2.pass0 (pa_cons (pv 0) (pa_cons (pe_lst (pa_cons pe_non (pa_cons pe_bl (pa_cons pe_str (pa_cons (pe_un un_neg pe_int) (pa_cons (pe_tup (pa_cons pe_int pa_nil)) (pa_cons (pe_lst pa_nil) (pa_cons pe_dnewK (pa_cons (pe_op op_pow pe_int pe_int) (pa_cons pe_int pa_nil)))))))))) pa_nil))))
  (pss_cons (ps_if (pt_cmpR op_ne (er (lamS_by (by decide +kernel)) rfl (fun _ _ _ _ _ => rfl) (fun A outer s H E f c' h4 => pe_callS Gh h4 rfl gh Fh.kp bh (fun σ => passAt (takes_of rfl rfl rfl rfl) σ) (pa_cons (pv 10) pa_nil))) (pv 8) (nomark _)) (pss_one (ps_ret pe_bl)) pss_nil)
  (pss_cons (ps_if (pt_cmpR op_ne (er (lamS_by (by decide +kernel)) rfl (fun _ _ _ _ _ => rfl) (fun A outer s H E f c' h4 => pe_callS Gh h4 rfl gh Fh.kp bh (fun σ => passAt (takes_of rfl rfl rfl rfl) σ) (pa_cons (pv 9) pa_nil))) (pe_op op_add_str pe_str (pe_callB (call_reprD hg hu) (by rfl) B.n_repr (by decide +kernel) (pa_cons (pv 9) pa_nil))) (nomark _)) (pss_one (ps_ret pe_bl)) pss_nil)
  (pss_one (ps_ret (pe_or (pe_cmpR op_gt (pv 10) pe_int (nomark _)) (pe_one (pe_cmpR op_eq (pe_call Gh hr4 rfl gh Fh.kp bh .nil pass_none (pa_cons (pv 10) pa_nil)) (pe_call Gx hr1 rfl gx Fx.kp bx .nil L2.pass0 (pa_cons (pv 10) pa_nil)) (nomark _)))))))))))))))))))), ?_⟩
  have M0 := Mt.refl hd ht
  refine ⟨_, rfl, d, rfl, hd, fun i H1 mv1 bi1 => ⟨_, rfl, d, rfl, mv1.dice, fun z H2 mv2 zl zo => ⟨_, _, rfl, ?_⟩⟩⟩
  have M2 := (M0.move mv1).move mv2
  have eabs : (if i < 0 then -i else i) = ((i.natAbs : Nat) : Int) := by split <;> omega
  have hlog : i.natAbs.log2 < 1920 := PySem.Flt.log2_lt_of (by decide) (Nat.lt_of_lt_of_le bi1 (Nat.pow_le_pow_right (by decide) (by decide)))
  have hlen : (Str.ofString (toString ((i.natAbs : Nat) : Int))).length ≤ sizeLine := Nat.le_trans (PyProof.Rows.int_text_len_1921 (i := ((i.natAbs : Nat) : Int)) (by simpa using hlog)) (by decide)
  refine ⟨_, rfl, _, rfl, _, rfl, ?_, _, rfl, ?_, _, _, rfl, rfl, ?_⟩
  · show (if i < 0 then -i else i).natAbs.log2 < 1920
    rw [eabs]
    simpa using hlog
  · show (Str.ofString (toString (if i < 0 then -i else i))).length ≤ sizeLine
    rw [eabs]
    exact hlen
  have es : decide ((((Str.ofString (toString (if i < 0 then -i else i))).length : Nat) : Int) ≤ 60) = intV (.int i) := by
    rw [eabs, ← short_int, decide_eq_decide]
    omega
  have kz : ∀ {Hk : Hp}, Kd K Hk (.str z) "str" := ⟨.base (.str z), by decide⟩
  have z1000 : z.length ≤ sizeLine := Nat.le_trans zl (by decide)
  refine ⟨_, rfl, .int i, "int", rfl, kd_int, _, rfl, .int i, "int", rfl, kd_int, _, rfl, .str z, "str", rfl, kz, (fun z' e => by cases e; exact z1000), fun H3 s3 => ⟨by show 3 ≤ sizeLine; decide, fun lt nt => ?_⟩⟩
  have M3 := (M2.same s3).same (sm (o := .lst [.bl (intV (.int i)), .bl (countV (.int i)), .bl (nameV (.str z))]) nt)
  have shT : ∀ a b c : Bool, (PyData.list [.bool a, .bool b, .bool c]).showable = true ∧ (PyData.list [.bool a, .bool b, .bool c]).depth ≤ 60 ∧ (PyData.list [.bool a, .bool b, .bool c]).shown.length ≤ 900 := fun a b c => by cases a <;> cases b <;> cases c <;> decide +kernel
  have e9 : (900 : Nat) ≤ sizeLine := by decide
  refine ⟨_, rfl, .ref lt, .list [.bool (intV (.int i)), .bool (countV (.int i)), .bool (nameV (.str z))], rfl, .lst (SqL.of upd_same) (.cons (.bl _) (.cons (.bl _) (.cons (.bl _) .nil))), (shT _ _ _).1, (shT _ _ _).2.1, Nat.le_trans (shT _ _ _).2.2 e9, _, rfl, _, rfl, _, rfl, ?_⟩
  refine and_cont (R := fun x Hk => x = .bl (countV (.int i)) ∧ Hk = upd H3 lt (.lst [.bl (intV (.int i)), .bl (countV (.int i)), .bl (nameV (.str z))])) (fun x Hk hx => ?_) (fun hc cont => ?_) (fun hc => ?_)
  · obtain ⟨rfl, rfl⟩ := hx
    refine ⟨_, rfl, z, rfl, by omega, zo, fun H4 s4 => ⟨by show 3 ≤ sizeLine; decide, fun l2 n2 => ?_⟩⟩
    have M4 := (M3.same s4).same (sm (o := .lst [.bl (decide ((((Str.ofString (toString (if i < 0 then -i else i))).length : Nat) : Int) ≤ 60)), .bl (countV (.int i)), .bl (nameS z)]) n2)
    refine ⟨.ref l2, .list [.bool (intV (.int i)), .bool (countV (.int i)), .bool (nameV (.str z))], rfl, .lst (SqL.of ?_) (.cons (.bl _) (.cons (.bl _) (.cons (.bl _) .nil))), (shT _ _ _).1, (shT _ _ _).2.1, Nat.le_trans (shT _ _ _).2.2 e9, rfl, _, rfl, ?_⟩
    · rw [← es]
      exact upd_same
    refine ite2 (fun hc => absurd hc (by simp)) (fun _ => ?_)
    refine ⟨_, rfl, d, 4, rfl, by decide, by decide, M4.dice, fun r H5 lr R5 => ?_⟩
    have M5 := M4.move (Mv.roll (Mv.refl M4.dice) R5)
    refine ⟨_, rfl, by omega, by omega, fun D hD => lc_range (lo := 0) (n := Int.toNat ((r : Nat) : Int)) (g := gName 11) (tt := tYes) (te := tCall spWord [] L2.E0 (tCons (tVar 0) tNil)) (fun j H' => Mt T d H H' ∧ ∃ ws : List Str, ws.length = j ∧ (∀ y ∈ ws, y.length ≤ 10 ∧ PyData.strOk y = true) ∧ H' D = some (.lst (ws.map V.str))) ⟨M5.same (sm hD), [], rfl, (fun y h => nomatch h), upd_same⟩ (fun j H' hj pv => ?_) (fun H' pv => ?_)⟩
    · obtain ⟨M, ws, lw, hw, hL⟩ := pv
      have neD : d ≠ D := by
        obtain ⟨a1, a2, a3, a4⟩ := M5.dice
        exact ne_of_none a4 hD
      refine ⟨rfl, _, rfl, d, rfl, M.dice, fun y H6 mv ly oy => ⟨_, mv.at (off_at neD.symm hL), ?_, (M.move mv).set (M5.new hD) neD (mv.at (off_at neD.symm hL)), ws ++ [y], ?_, ?_, ?_⟩⟩
      · rw [List.length_map]
        have : (4 : Nat) < sizeLine := by decide
        omega
      · rw [List.length_append, lw]
        rfl
      · intro x hx
        rcases List.mem_append.mp hx with hx | hx
        · exact hw x hx
        · rw [List.mem_singleton.mp hx]
          exact ⟨ly, oy⟩
      · rw [List.map_append]
        exact upd_same
    obtain ⟨M6, ws, lw, hw, hL⟩ := pv
    refine ⟨D, _, rfl, .inl ⟨SqL.of hL, fun tw ntw => ?_⟩⟩
    have M7 := M6.same (sm (o := .tup (ws.map V.str)) ntw)
    have dtw : tw ≠ d := by
      obtain ⟨a1, a2, a3, a4⟩ := M6.dice
      exact (ne_of_none a4 ntw).symm
    have hq : SqT K (Off d (upd H' tw (.tup (ws.map V.str)))) tw (ws.map V.str) := SqT.of (off_at dtw upd_same)
    have lw4 : ws.length < 1000 := by omega
    generalize upd H' tw (HO.tup (List.map V.str ws)) = Hc at M7 hq ⊢
    have N0 := Mt.refl M7.dice M7.tabs
    have shB : ∀ b : Bool, (PyData.bool b).showable = true ∧ (PyData.bool b).depth ≤ 60 ∧ (PyData.bool b).shown.length ≤ sizeLine := fun b => ⟨rfl, Nat.zero_le _, Nat.le_trans (by cases b <;> decide +kernel : (PyData.bool b).shown.length ≤ 10) (by decide)⟩
    have kst : ∀ {Hk : Hp} {y : Str}, Kd K Hk (.str y) "str" := ⟨.base (.str _), by decide⟩
    refine ⟨_, rfl, .ref tw, (ws.map V.str).all nameV, rfl, ⟨"tuple", ⟨tyX_tup (off_incl.tupT hq), by decide⟩, .inr ⟨rfl, tw, _, rfl, off_incl.tupT hq, ?_, fun x hx => ?_, rfl⟩⟩, fun H7 s7 => ?_⟩
    · rw [List.length_map]
      exact Nat.lt_trans lw4 (by decide)
    · obtain ⟨y, hy, rfl⟩ := List.mem_map.mp hx
      exact ⟨"str", kst, fun z e => by cases e; exact Nat.le_trans (hw y hy).1 (by decide)⟩
    have N1 := N0.same s7
    refine ⟨_, _, rfl, .bl _, (shB _).1, (shB _).2.1, (shB _).2.2, _, rfl, tw, rfl, ⟨_, (N1.off.trans off_incl).tupT hq⟩, fun D2 hD2 => lc_tup (xs := ws.map V.str) (g := gName 12) (tt := tNot (tB (tCall spLettered [] L2.E0 (tCons (tVar 12) tNil)))) (te := tVar 12) (fun j H' => Mt T d Hc H' ∧ H' D2 = some (.lst (((ws.take j).filter fun y => !nameS y).map V.str))) ⟨N1.same (sm hD2), upd_same⟩ (fun j H' _ e => (e.1.off.trans off_incl).tupT hq) (fun j x H' hx pv => ?_) (fun H' pv => ?_)⟩
    · obtain ⟨M, hL2⟩ := pv
      rw [List.getElem?_map] at hx
      obtain ⟨y, hy, rfl⟩ := Option.map_eq_some_iff.mp hx
      have wy := hw y (List.mem_of_getElem? hy)
      refine ⟨rfl, _, rfl, y, rfl, by omega, wy.2, fun H8 s8 => ⟨_, rfl, ?_⟩⟩
      have st : (ws.take (j + 1)).filter (fun y => !nameS y) = (ws.take j).filter (fun y => !nameS y) ++ (if nameS y = true then [] else [y]) := by
        rw [List.take_add_one, hy, Option.toList_some, List.filter_append]
        cases e : nameS y with
        | true => simp [List.filter_cons, e]
        | false => simp [List.filter_cons, e]
      refine ite2 (fun hk => ?_) (fun hk => ?_)
      · have hn : nameS y = false := by
          rw [Bool.not_eq_true'] at hk
          exact hk
        rw [hn] at st
        have neD2 : d ≠ D2 := by
          obtain ⟨a1, a2, a3, a4⟩ := N1.dice
          exact ne_of_none a4 hD2
        refine ⟨_, rfl, _, s8 _ _ hL2, ?_, (M.same s8).set (N1.new hD2) neD2 (s8 _ _ hL2), ?_⟩
        · rw [List.length_map]
          have h1 := List.length_filter_le (fun y => !nameS y) (ws.take j)
          rw [List.length_take] at h1
          have : (1000 : Nat) < sizeLine := by decide
          omega
        · rw [st, List.map_append]
          exact upd_same
      · have hn : nameS y = true := by
          rw [Bool.not_eq_true', Bool.not_eq_false] at hk
          exact hk
        rw [hn] at st
        refine ⟨M.same s8, ?_⟩
        rw [st]
        simpa using s8 _ _ hL2
    obtain ⟨N2, hL2⟩ := pv
    rw [List.length_map, List.take_length] at hL2
    refine ⟨by show 0 ≤ sizeLine; decide, fun D3 hD3 => ?_⟩
    have ok2 : ∀ y ∈ ws.filter (fun y => !nameS y), (PyData.str y).canLay0 = true := fun y hy => by
      simp only [PyData.canLay0]
      exact (hw y (List.mem_filter.mp hy).1).2
    refine ⟨_, .list [], Dp.lst (SqL.of (sm hD3 _ _ hL2)) (dpStrs _), Dp.lst (SqL.of upd_same) .nil, shapedStrs _ ok2, by decide +kernel, ?_⟩
    rw [eqv_nil, bad_none]
    refine ⟨_, _, rfl, .bl _, (shB _).1, (shB _).2.1, (shB _).2.2, rfl, _, rfl, ?_⟩
    refine ite2 (fun hc => absurd hc (by simp)) (fun _ => ?_)
    have N3 := M7.trans (N2.same (sm (o := .lst []) hD3))
    generalize upd H' D3 (HO.lst []) = Hp3 at N3 ⊢
    refine ⟨by show 1 ≤ sizeLine; decide, fun b0 c0 => ⟨by show 0 ≤ sizeLine; decide, fun b1 c1 => fun b2 c2 => ⟨by show 1 ≤ sizeLine; decide, fun b3 c3 => ⟨by show 1 ≤ sizeLine; decide, fun b4 c4 => ⟨by show 2 ≤ sizeLine; decide, fun b5 c5 => ⟨by show 1 ≤ sizeLine; decide, fun b6 c6 => ⟨by show 2 ≤ sizeLine; decide, fun b7 c7 => ⟨by show 1 ≤ sizeLine; decide, fun b8 c8 => ⟨by show 14 ≤ sizeLine; decide, fun lo c9 => ?_⟩⟩⟩⟩⟩⟩⟩⟩⟩
    obtain ⟨x1, x2, x3, hdz⟩ := N3.dice
    have w0 : b0 ≠ d := (ne_of_none ((Same.refl _) _ _ hdz) c0).symm
    have w1 : b1 ≠ d := (ne_of_none ((sm c0) _ _ hdz) c1).symm
    have w2 : b2 ≠ d := (ne_of_none (((sm c0).trans (sm c1)) _ _ hdz) c2).symm
    have w3 : b3 ≠ d := (ne_of_none ((((sm c0).trans (sm c1)).trans (sm c2)) _ _ hdz) c3).symm
    have w4 : b4 ≠ d := (ne_of_none (((((sm c0).trans (sm c1)).trans (sm c2)).trans (sm c3)) _ _ hdz) c4).symm
    have w5 : b5 ≠ d := (ne_of_none ((((((sm c0).trans (sm c1)).trans (sm c2)).trans (sm c3)).trans (sm c4)) _ _ hdz) c5).symm
    have w6 : b6 ≠ d := (ne_of_none (((((((sm c0).trans (sm c1)).trans (sm c2)).trans (sm c3)).trans (sm c4)).trans (sm c5)) _ _ hdz) c6).symm
    have w7 : b7 ≠ d := (ne_of_none ((((((((sm c0).trans (sm c1)).trans (sm c2)).trans (sm c3)).trans (sm c4)).trans (sm c5)).trans (sm c6)) _ _ hdz) c7).symm
    have w8 : b8 ≠ d := (ne_of_none (((((((((sm c0).trans (sm c1)).trans (sm c2)).trans (sm c3)).trans (sm c4)).trans (sm c5)).trans (sm c6)).trans (sm c7)) _ _ hdz) c8).symm
    have wl : d ≠ lo := ne_of_none ((((((((((sm c0).trans (sm c1)).trans (sm c2)).trans (sm c3)).trans (sm c4)).trans (sm c5)).trans (sm c6)).trans (sm c7)).trans (sm c8)) _ _ hdz) c9
    have SS := ((((((((((sm c0).trans (sm c1)).trans (sm c2)).trans (sm c3)).trans (sm c4)).trans (sm c5)).trans (sm c6)).trans (sm c7)).trans (sm c8)).trans (sm (o := .lst [V.non, .bl true, .bl false, .ref b0, .ref b1, .ref b2, .ref b3, .ref b4, .ref b5, .ref b6, .str "", .str "a b", .ref b7, .ref b8]) c9))
    have N4 := N3.same SS
    have OD := odds (K := K) (off_at w0 ((((((((((sm c1).trans (sm c2)).trans (sm c3)).trans (sm c4)).trans (sm c5)).trans (sm c6)).trans (sm c7)).trans (sm c8)).trans (sm (o := .lst [V.non, .bl true, .bl false, .ref b0, .ref b1, .ref b2, .ref b3, .ref b4, .ref b5, .ref b6, .str "", .str "a b", .ref b7, .ref b8]) c9)) _ _ upd_same)) (off_at w1 (((((((((sm c2).trans (sm c3)).trans (sm c4)).trans (sm c5)).trans (sm c6)).trans (sm c7)).trans (sm c8)).trans (sm (o := .lst [V.non, .bl true, .bl false, .ref b0, .ref b1, .ref b2, .ref b3, .ref b4, .ref b5, .ref b6, .str "", .str "a b", .ref b7, .ref b8]) c9)) _ _ upd_same)) (off_at w2 ((((((((sm c3).trans (sm c4)).trans (sm c5)).trans (sm c6)).trans (sm c7)).trans (sm c8)).trans (sm (o := .lst [V.non, .bl true, .bl false, .ref b0, .ref b1, .ref b2, .ref b3, .ref b4, .ref b5, .ref b6, .str "", .str "a b", .ref b7, .ref b8]) c9)) _ _ upd_same)) (off_at w3 (((((((sm c4).trans (sm c5)).trans (sm c6)).trans (sm c7)).trans (sm c8)).trans (sm (o := .lst [V.non, .bl true, .bl false, .ref b0, .ref b1, .ref b2, .ref b3, .ref b4, .ref b5, .ref b6, .str "", .str "a b", .ref b7, .ref b8]) c9)) _ _ upd_same)) (off_at w4 ((((((sm c5).trans (sm c6)).trans (sm c7)).trans (sm c8)).trans (sm (o := .lst [V.non, .bl true, .bl false, .ref b0, .ref b1, .ref b2, .ref b3, .ref b4, .ref b5, .ref b6, .str "", .str "a b", .ref b7, .ref b8]) c9)) _ _ upd_same)) (off_at w5 (((((sm c6).trans (sm c7)).trans (sm c8)).trans (sm (o := .lst [V.non, .bl true, .bl false, .ref b0, .ref b1, .ref b2, .ref b3, .ref b4, .ref b5, .ref b6, .str "", .str "a b", .ref b7, .ref b8]) c9)) _ _ upd_same)) (off_at w6 ((((sm c7).trans (sm c8)).trans (sm (o := .lst [V.non, .bl true, .bl false, .ref b0, .ref b1, .ref b2, .ref b3, .ref b4, .ref b5, .ref b6, .str "", .str "a b", .ref b7, .ref b8]) c9)) _ _ upd_same)) (off_at w7 (((sm c8).trans (sm (o := .lst [V.non, .bl true, .bl false, .ref b0, .ref b1, .ref b2, .ref b3, .ref b4, .ref b5, .ref b6, .str "", .str "a b", .ref b7, .ref b8]) c9)) _ _ upd_same)) (off_at w8 ((sm (o := .lst [V.non, .bl true, .bl false, .ref b0, .ref b1, .ref b2, .ref b3, .ref b4, .ref b5, .ref b6, .str "", .str "a b", .ref b7, .ref b8]) c9) _ _ upd_same))
    refine ⟨_, rfl, _, rfl, d, lo, [V.non, .bl true, .bl false, .ref b0, .ref b1, .ref b2, .ref b3, .ref b4, .ref b5, .ref b6, .str "", .str "a b", .ref b7, .ref b8], rfl, by show 0 < 14; decide, by show 14 < 1000000; decide, N4.dice, upd_same, wl, fun v H9 hv R9 => ?_⟩
    have mv9 := Mv.roll (Mv.refl N4.dice) R9
    have N5 := N4.move mv9
    have od := (OD v hv).ext fun b o e _ => mv9.off b o e
    have odH := od.ext off_incl
    obtain ⟨n, kv⟩ := odH.kd
    refine ⟨_, rfl, v, n, rfl, kv, _, rfl, v, n, rfl, kv, _, rfl, v, n, rfl, kv, odH.z, fun H10 s10 => ?_⟩
    have od10 := odH.ext (ExtN.of s10)
    refine ⟨_, rfl, v, false, rfl, od10.nm, fun H11 s11 => ?_⟩
    have od11 := od10.ext (ExtN.of s11)
    refine ⟨_, rfl, v, false, rfl, od11.fr, by show 5 ≤ sizeLine; decide, fun la ca => ?_⟩
    refine ⟨by show 1 ≤ sizeLine; decide, fun lb cb => ⟨lb, 5, _, rfl, rfl, upd_same, by decide, by decide, by show 1 * 5 ≤ sizeLine; decide, fun lc cc => ?_⟩⟩
    refine ⟨.list [.bool (intV v), .bool (countV v), .bool (nameV v), .bool false, .bool false], .list [.bool false, .bool false, .bool false, .bool false, .bool false], Dp.lst (SqL.of (((sm cb).trans (sm cc)) _ _ upd_same)) (.cons (.bl _) (.cons (.bl _) (.cons (.bl _) (.cons (.bl _) (.cons (.bl _) .nil))))), Dp.lst (SqL.of upd_same) (.cons (.bl _) (.cons (.bl _) (.cons (.bl _) (.cons (.bl _) (.cons (.bl _) .nil))))), by rw [od.i, od.c, od.m]; decide +kernel, by decide +kernel, _, rfl, ?_⟩
    rw [od.i, od.c, od.m]
    refine ite2 (fun hc => absurd hc (by decide +kernel)) (fun _ => ?_)
    have N6 := ((((N5.same s10).same s11).same (sm (o := .lst [.bl (intV v), .bl (countV v), .bl (nameV v), .bl false, .bl false]) ca)).same (sm (o := .lst [.bl false]) cb)).same (sm (o := .lst (List.replicate (5 : Int).toNat [V.bl false]).flatten) cc)
    rw [od.i, od.c, od.m] at N6
    have neD : ∀ {Hk : Hp} {x : Addr}, Dice Hk d → Hk x = none → d ≠ x := fun ⟨_, _, _, a⟩ n => ne_of_none a n
    refine ⟨_, rfl, by show 6 ≤ sizeLine; decide, fun lx cx => ?_⟩
    have N7 := N6.same (sm (o := .lst [.int 0, .int 20, .int 26, .int 50, .int 676, .int 690]) cx)
    refine ⟨d, lx, [.int 0, .int 20, .int 26, .int 50, .int 676, .int 690], rfl, by show 0 < 6; decide, by show 6 < 1000000; decide, N7.dice, upd_same, neD N6.dice cx, fun iv H12 hiv R12 => ?_⟩
    have N8 := N7.move (Mv.roll (Mv.refl N7.dice) R12)
    have hk : ∃ k0 : Int, iv = .int k0 ∧ 0 ≤ k0 ∧ k0 ≤ 690 := by
      simp only [List.mem_cons, List.not_mem_nil, or_false] at hiv
      rcases hiv with rfl | rfl | rfl | rfl | rfl | rfl <;> exact ⟨_, rfl, by decide, by decide⟩
    obtain ⟨k0, rfl, k1, k2⟩ := hk
    refine ⟨_, rfl, d, 30, rfl, by decide, by decide, N8.dice, fun r2 H13 lr2 R13 => ?_⟩
    have N9 := N8.move (Mv.roll (Mv.refl N8.dice) R13)
    refine ⟨_, _, rfl, rfl, ?_⟩
    obtain ⟨j1, j2⟩ : 0 ≤ k0 + ((r2 : Nat) : Int) ∧ k0 + ((r2 : Nat) : Int) ≤ 800 := by omega
    have sj := small_shown j1 j2
    refine ⟨_, rfl, _, _, rfl, rfl, _, rfl, ?_⟩
    refine if_cont (R := fun x Hk => x = .str (dueS (k0 + ((r2 : Nat) : Int))) ∧ Hk = H13) (fun x Hk hx => ?_) (fun hc cont => ?_) (fun hc cont => ?_)
    · obtain ⟨rfl, rfl⟩ := hx
      have p60 : CPow 10 60 := ⟨by decide, by decide, by decide⟩
      generalize hidx : k0 + ((r2 : Nat) : Int) = idx at j1 j2 sj ⊢
      refine ⟨_, rfl, _, rfl, by show 1 ≤ sizeLine; decide, fun g0 o0 => ⟨by show 0 ≤ sizeLine; decide, fun g1 o1 => fun g2 o2 => ⟨_, _, rfl, rfl, p60, by show 9 ≤ sizeLine; decide, fun lg o3 => ?_⟩⟩⟩
      have S2 := (((sm o0).trans (sm o1)).trans (sm o2)).trans (sm (o := .lst [V.non, .bl true, .str "1", .int (-1), .ref g0, .ref g1, .ref g2, .int G60, .int 702]) o3)
      have N10 := N9.same S2
      obtain ⟨y1, y2, y3, hdz2⟩ := N9.dice
      have z0 : g0 ≠ d := (ne_of_none hdz2 o0).symm
      have z1 : g1 ≠ d := (ne_of_none ((sm o0) _ _ hdz2) o1).symm
      have z2 : g2 ≠ d := (ne_of_none (((sm o0).trans (sm o1)) _ _ hdz2) o2).symm
      have z3 : d ≠ lg := ne_of_none ((((sm o0).trans (sm o1)).trans (sm o2)) _ _ hdz2) o3
      have NB := nthBad (K := K) (off_at z0 ((((sm o1).trans (sm o2)).trans (sm (o := .lst [V.non, .bl true, .str "1", .int (-1), .ref g0, .ref g1, .ref g2, .int G60, .int 702]) o3)) _ _ upd_same)) (off_at z1 (((sm o2).trans (sm (o := .lst [V.non, .bl true, .str "1", .int (-1), .ref g0, .ref g1, .ref g2, .int G60, .int 702]) o3)) _ _ upd_same)) (off_at z2 ((sm (o := .lst [V.non, .bl true, .str "1", .int (-1), .ref g0, .ref g1, .ref g2, .int G60, .int 702]) o3) _ _ upd_same))
      refine ⟨d, lg, [V.non, .bl true, .str "1", .int (-1), .ref g0, .ref g1, .ref g2, .int G60, .int 702], rfl, by show 0 < 9; decide, by show 9 < 1000000; decide, N10.dice, upd_same, z3, fun bv H14 hbv R14 => ?_⟩
      obtain ⟨⟨DB, tB⟩, nB⟩ := NB bv hbv
      have mv14 := Mv.roll (Mv.refl N10.dice) R14
      have N11 := N10.move mv14
      have tB1 := tB.ext fun b o e _ => mv14.off b o e
      have P0 := Mt.refl N11.dice N11.tabs
      have ni := nthOk_idx j1 j2
      refine ⟨N11.tabs, fun U0 e0 q0 => err_cont (R := fun x Hk => x = .str (dueS idx) ∧ Mt T d H14 Hk) (fun x Hk hx => ?_) (fun cont2 => ?_)⟩
      · obtain ⟨rfl, M⟩ := hx
        refine ⟨_, rfl, rfl, _, rfl, ?_⟩
        refine ite2 (fun hc => absurd hc (by simp)) (fun _ => ?_)
        refine ⟨M.tabs, fun U1 e1 q1 => ?_⟩
        have A1 := M.lam e1 q1
        refine ⟨_, rfl, bv, _, rfl, dr_kind (drN (A1.off.trans off_incl) tB1.dr), (fun i' e z => by rw [nB] at z; cases z), fun _ => ?_⟩
        refine num_dr A1 tB1 fun x9 H15 M9 s9 hx9 dr9 => ?_
        have e7 : 7 + DB.shown.length ≤ sizeLine := Nat.le_trans (Nat.add_le_add_left tB1.sz 7) (by decide)
        have e0' : DB.shown.length ≤ sizeLine := Nat.le_trans tB1.sz (by decide)
        refine Or.inl ⟨rfl, x9, bv, DB, rfl, hx9, dr9, tB1.sh, tB1.dp, tB1.sz, _, rfl, bv, DB, rfl, dr9, tB1.sh, tB1.dp, e0', _, _, rfl, rfl, e7, rfl, _, rfl, ?_⟩
        refine ite2 (fun hc => absurd hc (by simp)) (fun _ => ?_)
        refine ⟨_, rfl, _, _, rfl, rfl, _, rfl, ?_⟩
        refine ite2 (fun hc => ?_) (fun hc => ?_)
        · exact q _ (N11.trans M9)
        · have l7 : idx < 702 := by
            rw [decide_eq_true_eq] at hc
            omega
          refine ⟨_, rfl, .int idx, "int", (by show [V.int (k0 + ((r2 : Nat) : Int))] = [V.int idx]; rw [hidx]), kd_int, (fun i' e z => ?_), (fun z => by rw [ni, decide_eq_true l7] at z; cases z)⟩
          cases e
          refine ⟨_, rfl, idx, (by show [V.int (k0 + ((r2 : Nat) : Int))] = [V.int idx]; rw [hidx]), j1, l7, rfl, ?_⟩
          rw [decide_eq_true rfl]
          exact q _ (N11.trans M9)
      · have A0 := P0.lam e0 q0
        refine ⟨_, rfl, .int idx, "int", (by show [V.int (k0 + ((r2 : Nat) : Int))] = [V.int idx]; rw [hidx]), kd_int, (fun i' e z => ?_), fun z => ?_⟩
        · rw [ni] at z
          exact cont2 _ _ ⟨by rw [dueS, if_pos (of_decide_eq_true z)], A0⟩
        · rw [ni] at z
          refine num_dr (K := K) A0 (D := .int idx) ⟨.int _, sj.1, sj.2.1, sj.2.2⟩ fun x8 H15 M8 s8' hx8 dr8 => ?_
          exact Or.inl ⟨rfl, x8, .int idx, .int idx, rfl, hx8, dr8, sj.1, sj.2.1, sj.2.2, cont2 _ _ ⟨by rw [dueS, if_neg (of_decide_eq_false z)], M8⟩⟩
    · exact cont _ _ ⟨by rw [dueS, if_pos (of_decide_eq_true hc)], rfl⟩
    · have b7 : (7 : Nat) + (PyData.int (k0 + ((r2 : Nat) : Int))).shown.length ≤ sizeLine := Nat.le_trans (Nat.add_le_add_left sj.2.2 7) (by decide)
      exact ⟨_, rfl, _, .int (k0 + ((r2 : Nat) : Int)), rfl, .int _, sj.1, sj.2.1, Nat.le_trans sj.2.2 (by decide), _, _, rfl, rfl, b7, cont _ _ ⟨by rw [dueS, if_neg (of_decide_eq_false hc)], rfl⟩⟩
  · refine ⟨_, rfl, _, _, rfl, rfl, cont _ _ ⟨?_, rfl⟩⟩
    have hi : intV (.int i) = true := by
      rw [← es]
      exact hc
    show V.bl (decide (0 ≤ i)) = V.bl (intV (.int i) && decide (0 ≤ i))
    rw [hi, Bool.true_and]
  · have hi : intV (.int i) = false := by
      rw [← es]
      exact hc
    refine ⟨?_, rfl⟩
    show V.bl false = V.bl (intV (.int i) && decide (0 ≤ i))
    rw [hi, Bool.false_and]
end
end VW
/-! VSet -/
set_option maxRecDepth 100000
set_option maxHeartbeats 4000000
/-! sets of texts: made of lists and tuples, counted, sorted -/
namespace VK
open PySem PySem.Spec PyProof.Rows L2
def txOf (e : Int × Value) : Str := match e.2 with | .str x _ => x | _ => ⟨#[]⟩
def GoodX (w : World) (e : Int × Value) : Prop := ∃ x t, e.2 = Value.str x t ∧ e.1 = hashStr w x
/-- the texts xs, each once, are the set at a -/
def SetX (w : World) (h : Heap) (a : Addr) (xs : List Str) : Prop :=
  ∃ o es ep t, h.get? a = some o ∧ o.ExactSet ∧ o.data = .set es ep t ∧ (∀ e ∈ es.toList, GoodX w e) ∧ (es.toList.map txOf).Perm xs ∧ xs.Nodup ∧ es.size < scanBound ∧ t.fits es.size = true ∧
    Ris t.place.toList ∧ (w.params.followText "set-order" = true ∨ t.led = true)
def addX (xs : List Str) (z : Str) : List Str := if z ∈ xs then xs else z :: xs
def dist (l : List Str) : List Str := l.foldl addX []
theorem addX_mem {xs : List Str} {z y : Str} : y ∈ addX xs z ↔ y ∈ xs ∨ y = z := by
  unfold addX
  by_cases c : z ∈ xs
  · rw [if_pos c]
    exact ⟨.inl, fun q => q.elim id fun e => e ▸ c⟩
  · rw [if_neg c, List.mem_cons]
    exact Or.comm
theorem addX_nodup {xs : List Str} {z : Str} (n : xs.Nodup) : (addX xs z).Nodup := by
  unfold addX
  by_cases c : z ∈ xs
  · rw [if_pos c]
    exact n
  · rw [if_neg c]
    exact List.nodup_cons.mpr ⟨c, n⟩
theorem addX_len {xs : List Str} {z : Str} : (addX xs z).length ≤ xs.length + 1 := by
  unfold addX
  split <;> simp
theorem dist_step (l : List Str) (i : Nat) (z : Str) (h : l[i]? = some z) : dist (l.take (i + 1)) = addX (dist (l.take i)) z := by
  rw [List.take_add_one, h]
  unfold dist
  rw [List.foldl_append]
  rfl
theorem dist_gen : ∀ (l acc : List Str), acc.Nodup → (l.foldl addX acc).Nodup ∧ (∀ y, y ∈ l.foldl addX acc ↔ y ∈ acc ∨ y ∈ l) ∧ (l.foldl addX acc).length ≤ acc.length + l.length
  | [], acc, n => ⟨n, fun y => by simp, by simp⟩
  | z :: l, acc, n => by
    obtain ⟨h1, h2, h3⟩ := dist_gen l (addX acc z) (addX_nodup n)
    refine ⟨h1, fun y => ?_, ?_⟩
    · rw [List.foldl_cons, h2 y, addX_mem, List.mem_cons, or_assoc]
    · have := addX_len (xs := acc) (z := z)
      rw [List.foldl_cons, List.length_cons]
      omega
theorem dist_nodup (l : List Str) : (dist l).Nodup := (dist_gen l [] List.nodup_nil).1
theorem dist_mem (l : List Str) (y : Str) : y ∈ dist l ↔ y ∈ l := by
  have := (dist_gen l [] List.nodup_nil).2.1 y
  simpa [dist] using this
theorem dist_len (l : List Str) : (dist l).length ≤ l.length := by
  have := (dist_gen l [] List.nodup_nil).2.2
  simpa [dist] using this
section
variable {P : Program} {w : World} {h h' : Heap} {a : Addr} {xs : List Str}
theorem SetX.move (R : SetX w h a xs) (k : ∀ o, h.get? a = some o → h'.get? a = some o) : SetX w h' a xs := by
  obtain ⟨o, es, ep, t, o1, rest⟩ := R
  exact ⟨o, es, ep, t, k o o1, rest⟩
theorem SetX.size (R : SetX w h a xs) : ∃ o es ep t, h.get? a = some o ∧ o.ExactSet ∧ o.data = .set es ep t ∧ t.fits es.size = true ∧ es.size = xs.length := by
  obtain ⟨o, es, ep, t, o1, o2, o3, _, o5, _, _, o8, _⟩ := R
  refine ⟨o, es, ep, t, o1, o2, o3, o8, ?_⟩
  have := o5.length_eq
  rw [List.length_map, Array.length_toList] at this
  exact this
theorem goodX_elems {l : List (Int × Value)} (g : ∀ e ∈ l, GoodX w e) : ElemsOf (PySem.strKind P w) l := fun e m => by
  obtain ⟨x, t, e1, e2⟩ := g e m
  refine ⟨⟨x, ?_, e2⟩, ?_⟩
  · rw [e1]
    exact strKind_is P w x t
  · rw [e1]
    rfl
theorem goodX_is {e : Int × Value} (g : GoodX w e) (x : Str) : (PySem.strKind P w).is x e.2 = true ↔ txOf e = x := by
  obtain ⟨y, t, e1, _⟩ := g
  unfold txOf
  rw [e1]
  show Value.isStrOf x (.str y t) = true ↔ y = x
  simp [Value.isStrOf]
theorem goodX_mem {l : List (Int × Value)} (g : ∀ e ∈ l, GoodX w e) (x : Str) : x ∈ l.map txOf ↔ ∃ e ∈ l, (PySem.strKind P w).is x e.2 = true := by
  rw [List.mem_map]
  exact ⟨fun ⟨e, m, q⟩ => ⟨e, m, (goodX_is (g e m) x).2 q⟩, fun ⟨e, m, q⟩ => ⟨e, m, (goodX_is (g e m) x).1 q⟩⟩
end
section
variable {P : Program} {w : World} {A : Around} {E : Value → Shared → Prop} {s : Shared} {a : Addr} {xs : List Str}
theorem setX_tail {g : Bool → Sem Unit} (gq : ∀ (b : Bool) (u : Shared) (Z : Unit → Shared → Prop), Z () u → wpAny (model P w) A (g b) Z E u)
    {o : Obj} {es : Array (Int × Value)} {ep : Nat} {t : SetTable} (o1 : s.heap.get? a = some o) (o2 : o.ExactSet) (o3 : o.data = .set es ep t)
    {fs : Array (Int × Value)} {t2 : SetTable} {ys : List Str} (f1 : ∀ e ∈ fs.toList, GoodX w e) (f2 : (fs.toList.map txOf).Perm ys) (f3 : ys.Nodup)
    (f4 : fs.size < scanBound) (f5 : t2.fits fs.size = true) (f6 : Ris t2.place.toList) (f7 : w.params.followText "set-order" = true ∨ t2.led = true) {dm : Bool} {Z : Option Bool → Shared → Prop}
    (k : ∀ h', Heap.SameBut a s.heap h' → SetX w h' a ys → Z (some true) { s with heap := h' }) :
    wpAny (model P w) A (do
        storeSet a fs t2
        if (!dm && t2.tooFull) = true then do
            g (relayAll t2 fs (SetTable.grown fs.size)).2.2
            storeSet a (relayAll t2 fs (SetTable.grown fs.size)).1 (relayAll t2 fs (SetTable.grown fs.size)).2.1
            pure (some true)
          else pure (some true)) Z E s := by
  refine wpAny_bind (wpAny_storeSet_of o1 o3 ?_ (fits_of_scanBound f4))
  have at1 := store_at (es' := fs) (t' := t2) o1 o3
  have but1 := Heap.SameBut.update s.heap a (Obj.putSet fs t2)
  split
  · have r1 := relayAll_perm t2 fs (SetTable.grown fs.size)
    have r2 := relayAll_fits t2 fs (SetTable.grown fs.size)
    have r3 := relayAll_ris t2 fs (SetTable.grown fs.size)
    have r4 := relayAll_led t2 fs (SetTable.grown fs.size)
    generalize relayAll t2 fs (SetTable.grown fs.size) = U at r1 r2 r3 r4 ⊢
    obtain ⟨gs, t3, gave⟩ := U
    dsimp only at r1 r2 r3 r4 ⊢
    have same : gs.size = fs.size := by
      have := r1.length_eq
      rwa [Array.length_toList, Array.length_toList] at this
    have small : gs.size < scanBound := by
      rw [same]
      exact f4
    refine wpAny_bind (gq _ _ _ ?_)
    refine wpAny_bind (wpAny_storeSet_of at1 rfl ?_ (fits_of_scanBound small))
    have at2 := store_at (es' := gs) (t' := t3) at1 rfl
    refine wpAny_pure (k _ (but1.trans (Heap.SameBut.update _ a _)) ?_)
    refine ⟨_, gs, _, t3, at2, o2, rfl, fun e m => f1 e (r1.mem_iff.mp m), (r1.map txOf).trans f2, f3, small, r2, r3, f7.imp id fun z => ?_⟩
    rw [r4]
    exact z
  · exact wpAny_pure (k _ but1 ⟨_, fs, _, t2, at1, o2, rfl, f1, f2, f3, f4, f5, f6, f7⟩)
theorem setX_hashed {z : Str} {tk : Tok} {Q : Bool → Shared → Prop} (R : SetX w s.heap a xs) (room : xs.length + 1 < scanBound)
    (k : ∀ b h', Heap.SameBut a s.heap h' → SetX w h' a (addX xs z) → Q b { s with heap := h' }) :
    wpAny (model P w) A (setAddHashed a (.str z tk) ((PySem.strKind P w).hash z)) Q E s := by
  obtain ⟨o, es, ep, t, o1, o2, o3, o4, o5, o6, o7, o8, o9, o10⟩ := R
  have isz : (PySem.strKind P w).is z (.str z tk) = true := strKind_is P w z tk
  have scz : (Value.str z tk).scannable = true := rfl
  have els : ElemsOf (PySem.strKind P w) es.toList := goodX_elems o4
  have len : es.size = xs.length := by
    have := o5.length_eq
    rwa [List.length_map, Array.length_toList] at this
  unfold setAddHashed setAddHashedIn
  refine wpAny_holding (wpAny_bind (wpAny_setState_of o1 o3 o8 ?_))
  dsimp only
  rw [byScan_of scz o7 els]
  simp only [↓reduceIte]
  unfold setAddByScan
  refine wpAny_bind ?_
  refine wpAny_bind (wpAny_rule ?_)
  refine wpAny_bind (wpAny_setScan_of isz o1 o3 o8 els ?_)
  cases look : List.findIdx? (fun e => (PySem.strKind P w).is z e.2) es.toList with
  | some j =>
    dsimp only
    obtain ⟨j1, j2, _⟩ := List.findIdx?_eq_some_iff_getElem.mp look
    have inz : z ∈ xs := o5.mem_iff.mp ((goodX_mem (P := P) o4 z).2 ⟨es.toList[j], List.getElem_mem j1, j2⟩)
    refine wpAny_pure (wpAny_pure ?_)
    refine k _ s.heap (Heap.SameBut.refl a s.heap) ⟨o, es, ep, t, o1, o2, o3, o4, ?_, ?_, o7, o8, o9, o10⟩
    · unfold addX
      rw [if_pos inz]
      exact o5
    · unfold addX
      rw [if_pos inz]
      exact o6
  | none =>
    dsimp only
    have notes : z ∉ es.toList.map txOf := fun m => by
      obtain ⟨e, he, q⟩ := (goodX_mem (P := P) o4 z).1 m
      have c := List.findIdx?_eq_none_iff.mp look e he
      rw [q] at c
      cases c
    have notin : z ∉ xs := fun m => notes (o5.mem_iff.mpr m)
    have eadd : addX xs z = z :: xs := if_neg notin
    have gives : ∀ (b : Bool) {u : Shared} {Z : Unit → Shared → Prop}, Z () u → wpAny (model P w) A (match b with | true => rule "set.scan.the-table-gave-way" | false => pure ()) Z E u :=
      fun b u Z q => by
        cases b
        · exact wpAny_pure q
        · exact wpAny_rule q
    have l1 := layNew_perm t es ((PySem.strKind P w).hash z) (.str z tk)
    have l2 := layNew_fits t es ((PySem.strKind P w).hash z) (.str z tk)
    have l3 := layNew_ris t es ((PySem.strKind P w).hash z) (.str z tk) o9
    have l4 := layNew_led t es ((PySem.strKind P w).hash z) (.str z tk)
    generalize layNew t es ((PySem.strKind P w).hash z) (.str z tk) = U at l1 l2 l3 l4 ⊢
    obtain ⟨fs, t1, dm, gave⟩ := U
    dsimp only at l1 l2 l3 l4 ⊢
    rw [Array.toList_push] at l1
    have p1 : fs.toList.Perm (((PySem.strKind P w).hash z, Value.str z tk) :: es.toList) := l1.trans (List.perm_append_singleton _ _)
    have p2 : (fs.toList.map txOf).Perm (z :: es.toList.map txOf) := p1.map txOf
    have p3 : (fs.toList.map txOf).Perm (addX xs z) := by
      rw [eadd]
      exact p2.trans (o5.cons z)
    have good : ∀ e ∈ fs.toList, GoodX w e := fun e m => by
      rcases List.mem_cons.mp (p1.mem_iff.mp m) with q | q
      · rw [q]
        exact ⟨z, tk, rfl, rfl⟩
      · exact o4 e q
    have size1 : fs.size = xs.length + 1 := by
      have := p1.length_eq
      rwa [List.length_cons, Array.length_toList, Array.length_toList, len] at this
    have small : fs.size < scanBound := by
      rw [size1]
      exact room
    have led1 : w.params.followText "set-order" = true ∨ t1.led = true := o10.imp id fun q => by
      rw [l4]
      exact q
    have nd : (addX xs z).Nodup := addX_nodup o6
    refine wpAny_bind (gives _ ?_)
    split
    · refine wpAny_bind ?_
      rw [hashByValue_scannable 8 scz]
      refine wpAny_pure ?_
      refine setX_tail (fun b u Z q => by cases b; exact wpAny_pure q; exact wpAny_rule q) o1 o2 o3 good p3 nd small ?_ ?_ ?_ ?_
      · first | (split <;> first | exact l2 | exact SetTable.fits_plain_off l2) | exact l2
      · first | (split <;> exact l3) | exact l3
      · first | (split <;> exact led1) | exact led1
      · intro h' sb r
        dsimp only
        exact wpAny_pure (k _ h' sb r)
    · refine wpAny_bind (wpAny_pure ?_)
      simp only [↓reduceIte]
      refine setX_tail (fun b u Z q => by cases b; exact wpAny_pure q; exact wpAny_rule q) o1 o2 o3 good p3 nd small l2 l3 led1 ?_
      intro h' sb r
      dsimp only
      exact wpAny_pure (k _ h' sb r)
end
end VK
/-! VSetC -/
set_option maxRecDepth 100000
set_option maxHeartbeats 4000000
/-! set(xs), xs a list or a tuple of texts -/
namespace VK
open PySem PySem.Spec PyProof.Rows L2
abbrev setO0 (w : World) : Obj := { cls := .type "set", dict := none, data := .set #[] 0 (.fresh 0 0 (!w.params.followText "set-order")) }
theorem setX_empty {w : World} {h : Heap} {a : Addr} (e : h.get? a = some (setO0 w)) : SetX w h a [] := by
  refine ⟨_, #[], 0, _, e, ⟨rfl, rfl, rfl⟩, rfl, fun e m => by simp at m, by simp, List.nodup_nil, by decide, by rfl, List.Pairwise.nil, ?_⟩
  show _ ∨ (!w.params.followText "set-order") = true
  cases w.params.followText "set-order" <;> simp
section
variable {P : Program} {w : World} {A : Around} {E : Value → Shared → Prop} {s : Shared}
theorem textAt : ∀ {vs : List Value} {xs : List Str}, StrsAre vs xs → ∀ (i : Nat) (v : Value), vs[i]? = some v → ∃ x t, xs[i]? = some x ∧ v = .str x t
  | _, _, .nil, i, v, h => by simp at h
  | _, _, .cons x t r, 0, v, h => by
    rw [List.getElem?_cons_zero, Option.some.injEq] at h
    exact ⟨x, t, rfl, h.symm⟩
  | _, _, .cons x t r, i + 1, v, h => by
    rw [List.getElem?_cons_succ] at h
    obtain ⟨y, u, e1, e2⟩ := textAt r i v h
    exact ⟨y, u, by rw [List.getElem?_cons_succ]; exact e1, e2⟩
/-- the loop that takes the texts in -/
theorem loopX {I : Addr} {fp wr : List Addr} {G : Array GenState → Array GenState → Prop} {n : Nat} {Pv : Nat → Value → Prop} {St : Nat → Shared → Prop} {R : Result → Shared → Prop}
    (W : WalksS P w A.in1 I fp wr G n Pv St) (S : Addr) (away : S ∉ fp) (xs : List Str) (len : n = xs.length) (room : xs.length + 1 < scanBound) (val : ∀ i v, Pv i v → ∃ x t, xs[i]? = some x ∧ v = .str x t) :
    ∀ (m i : Nat) (u : Shared), n - i = m → i ≤ n → St i u → SetX w u.heap S (dist (xs.take i)) →
      (∀ u', Moved (S :: wr) G u u' → SetX w u'.heap S (dist xs) → R (.ok (.ret .none)) u') → codeAny (model P w) A (.builtin "set.update.loop" ⟨[.ref S, .ref I], []⟩) R u := by
  have away2 : S ∉ wr := fun m => away (W.sub _ m)
  have more : ∀ b ∈ wr, b ∈ S :: wr := fun b m => List.mem_cons_of_mem _ m
  intro m
  induction m with
  | zero =>
    intro i u em hi st x out
    have ei : i = n := by omega
    subst ei
    refine codeAny_builtin F.entry_set_update_loop ?_
    rw [Around.under_plainId F.plain_set_update_loop _]
    show wpAny _ A.in1 (pyNext (.ref I) >>= _) _ _ u
    refine wpAny_bind (W.done u _ _ st fun u' mv => ?_)
    have all : xs.take i = xs := List.take_of_length_le (by omega)
    rw [all] at x
    show wpAny _ A.in1 (ret Value.none) _ _ u'
    exact wpAny_pure (out u' (mv.mono more) (x.move fun o e => mv.heap S o away2 e))
  | succ m ih =>
    intro i u em hi st x out
    have lt : i < n := by omega
    refine codeAny_builtin F.entry_set_update_loop ?_
    rw [Around.under_plainId F.plain_set_update_loop _]
    show wpAny _ A.in1 (pyNext (.ref I) >>= _) _ _ u
    refine wpAny_bind (W.item i u _ _ lt st fun v u' pv st' mv => ?_)
    obtain ⟨z, t, ez, rfl⟩ := val i v pv
    have x' : SetX w u'.heap S (dist (xs.take i)) := x.move fun o e => mv.heap S o away2 e
    show wpAny _ A.in1 (holding [Value.str z t] (setAdd S (.str z t)) >>= _) _ _ u'
    refine wpAny_bind (wpAny_holding ?_)
    unfold setAdd
    refine wpAny_holding (wpAny_bind ((PySem.strKind P w).pyHash (k := z) (strKind_is _ _ _ _) ?_))
    have few : (dist (xs.take i)).length + 1 < scanBound := by
      have h1 := dist_len (xs.take i)
      have h2 := List.length_take_le' i xs
      omega
    refine setX_hashed (s := { u' with toks := u'.toks + 1 }) x' few fun b h' but x2 => ?_
    have x3 : SetX w h' S (dist (xs.take (i + 1))) := by
      rw [dist_step xs i z ez]
      exact x2
    have frame : St (i + 1) { u' with heap := h', toks := u'.toks + 1 } := W.frame _ u' _ _ st' (Nat.le_succ _) fun b m o e => by
      rw [but.2 b (fun q : b = S => away (q ▸ m))]
      exact e
    refine wpAny_pure ⟨plainId_quiet F.plain_set_update_loop _, ih (i + 1) _ (by omega) lt frame x3 fun u'' mv2 x4 => ?_⟩
    refine out u'' (Moved.trans W.gtrans ((mv.mono more).then_heap (Nat.le_succ _) fun b o nm e => ?_) mv2) x4
    rw [but.2 b (fun q : b = S => nm (q ▸ List.mem_cons_self))]
    exact e
/-- set(l), l a list of texts -/
theorem setOfL {l : Addr} {its : Array Value} {xs : List Str} {Q : Value → Shared → Prop} (calm : A.handled = none) (isl : s.heap.IsList l its) (tx : StrsAre its.toList xs) (room : xs.length + 1 < scanBound)
    (k : ∀ (h' : Heap) (tk : Nat), SetX w h' s.heap.objs.size (dist xs) → (∀ b o, s.heap.get? b = some o → h'.get? b = some o) → Q (.ref s.heap.objs.size) { s with heap := h', toks := tk }) :
    wpAny (model P w) A (call (.type "set") [.ref l]) Q E s := by
  have many : its.size = xs.length := by
    have := tx.length
    rwa [Array.length_toList] at this
  obtain ⟨c0, c1, c2⟩ := F.called_set.mro
  have c3 := F.called_set.made
  have c4 := F.called_set.sub
  refine wpAny_call (codeAny_of_tree ?_)
  show wpAny _ _ (callAny (.type "set") _) _ _ _
  refine wpAny_pure ⟨Code.quiet_builtin _ (by decide +kernel), codeAny_builtin F.entry_type_call ?_⟩
  rw [Around.under_plain (weight_type_call_type "set" [.ref l] []) rfl]
  have c5 := F.called_set.notType
  have c6 := F.called_set.canCreate
  have c7 := F.typeCall_set_1 (.ref l)
  repeat (any_goals (first | assumption | wp_step))
  refine codeAny_mono (code_set_led1 (.ref l) (E := E) (Q₁ := fun v u => v = .ref s.heap.objs.size ∧ u = { s with heap := s.heap.push (setO0 w) }) ⟨rfl, rfl⟩) fun r u hr => ?_
  cases r with
  | error e => exact hr
  | ok fl =>
    cases fl with
    | ret v =>
      obtain ⟨rfl, rfl⟩ := hr
      have atS : (s.heap.push (setO0 w)).get? s.heap.objs.size = some (setO0 w) := Heap.get?_push_size _ rfl
      have tyS : Shared.TypeIs { s with heap := s.heap.push (setO0 w) } (.ref s.heap.objs.size) "set" := ⟨_, atS, rfl⟩
      have d1 := F.called_set.init.lookup
      have d2 := F.called_set.init.bind (.ref s.heap.objs.size)
      repeat (any_goals (first | assumption | wp_step))
      refine codeAny_mono (codeAny_call_builtin (R := wants (fun r u => r = .none ∧ ∃ h' tk, u = { s with heap := h', toks := tk } ∧ SetX w h' s.heap.objs.size (dist xs) ∧ (∀ b o, s.heap.get? b = some o → h'.get? b = some o)) E)
        F.called_set.init.plain F.entry_set_init (check_set_init_1 tyS ?_)) fun r2 u2 hr2 => ?_
      · obtain ⟨ol, ol1, ol2, nl, ol3⟩ := isl
        obtain ⟨ocl, odi, oda, osl⟩ := ol
        simp only at ol2 ol3
        subst ol2; subst ol3
        have atL : (s.heap.push (setO0 w)).get? l = some { cls := .type "list", dict := odi, data := .seq its nl, slots := osl } := Heap.get?_push_of_some _ ol1
        have g1 := F.sub_list_set
        have g2 := F.sub_list_frozenset
        have g3 : (Value.type "list" == Value.type "dict") = false := by decide
        have isL : (s.heap.push (setO0 w)).IsList l its := ⟨_, atL, rfl, nl, rfl⟩
        unfold Builtin.«set.__init__» noKeywords Builtin.Frozenset.updateFrom
        generalize hid : pyIter = PIT
        wp_walk
        subst hid
        refine wpAny_pyIter_list isL ?_
        refine wpAny_bind (wpAny_runValue ?_)
        have old : l < s.heap.objs.size := Heap.lt_size ol1
        have calm3 : A.in1.in1.in1.handled = none := by simp [calm]
        have sz1 : (s.heap.push (setO0 w)).objs.size = s.heap.objs.size + 1 := Heap.size_push ..
        have neI : l ≠ (s.heap.push (setO0 w)).objs.size := by
          rw [sz1]
          exact Nat.ne_of_lt (Nat.lt_succ_of_lt old)
        have away : s.heap.objs.size ∉ [(s.heap.push (setO0 w)).objs.size, l] := by
          rw [sz1]
          simp only [List.mem_cons, List.not_mem_nil, or_false, not_or]
          exact ⟨Nat.ne_of_lt (Nat.lt_succ_self _), Nat.ne_of_gt old⟩
        refine loopX ((Walks.list calm3 _ l neI its).toS) s.heap.objs.size away xs many room (fun i v e => textAt tx i v (by rw [Array.getElem?_toList]; exact e)) (its.size - 0) 0 _ (by omega) (Nat.zero_le _)
          ⟨⟨_, Heap.get?_push_size _ rfl, rfl, rfl⟩, isL.push _⟩ ?begin ?finish
        case begin =>
          exact setX_empty (Heap.get?_push_of_some _ atS)
        case finish =>
          intro u mv x
          obtain ⟨h', g', d', tk', os'⟩ := u
          have eg : g' = s.gens := mv.gens
          have ed : d' = s.drawn := mv.drawn
          have eo : os' = s.os := mv.os
          subst eg; subst ed; subst eo
          show wpAny _ _ _ _ _ _
          refine wpAny_pure ?_
          show wpAny _ _ (ret Value.none) _ _ _
          refine wpAny_pure ⟨rfl, h', tk', rfl, x, fun b o e => ?_⟩
          have lt := Heap.lt_size e
          refine mv.heap b o (fun m => ?_) (Heap.get?_push_of_some _ (Heap.get?_push_of_some _ e))
          rw [sz1] at m
          simp only [List.mem_cons, List.not_mem_nil, or_false] at m
          rcases m with q | q <;> rw [q] at lt
          · exact Nat.lt_irrefl _ lt
          · exact Nat.lt_irrefl _ (Nat.lt_of_succ_lt lt)
      · cases r2 with
        | error e => exact hr2
        | ok fl2 =>
          cases fl2 with
          | ret r =>
            obtain ⟨rfl, h', tk, rfl, x, keep⟩ := hr2
            repeat (any_goals (first | assumption | wp_step))
            exact k _ _ x keep
          | _ => exact hr2.elim
    | _ => exact hr.elim
/-- set(l), l a tuple of texts -/
theorem setOfT {l : Addr} {its : Array Value} {xs : List Str} {Q : Value → Shared → Prop} (calm : A.handled = none) (ist : s.heap.IsTuple l its) (tx : StrsAre its.toList xs) (room : xs.length + 1 < scanBound)
    (k : ∀ (h' : Heap) (tk : Nat), SetX w h' s.heap.objs.size (dist xs) → (∀ b o, s.heap.get? b = some o → h'.get? b = some o) → Q (.ref s.heap.objs.size) { s with heap := h', toks := tk }) :
    wpAny (model P w) A (call (.type "set") [.ref l]) Q E s := by
  have many : its.size = xs.length := by
    have := tx.length
    rwa [Array.length_toList] at this
  obtain ⟨c0, c1, c2⟩ := F.called_set.mro
  have c3 := F.called_set.made
  have c4 := F.called_set.sub
  refine wpAny_call (codeAny_of_tree ?_)
  show wpAny _ _ (callAny (.type "set") _) _ _ _
  refine wpAny_pure ⟨Code.quiet_builtin _ (by decide +kernel), codeAny_builtin F.entry_type_call ?_⟩
  rw [Around.under_plain (weight_type_call_type "set" [.ref l] []) rfl]
  have c5 := F.called_set.notType
  have c6 := F.called_set.canCreate
  have c7 := F.typeCall_set_1 (.ref l)
  repeat (any_goals (first | assumption | wp_step))
  refine codeAny_mono (code_set_led1 (.ref l) (E := E) (Q₁ := fun v u => v = .ref s.heap.objs.size ∧ u = { s with heap := s.heap.push (setO0 w) }) ⟨rfl, rfl⟩) fun r u hr => ?_
  cases r with
  | error e => exact hr
  | ok fl =>
    cases fl with
    | ret v =>
      obtain ⟨rfl, rfl⟩ := hr
      have atS : (s.heap.push (setO0 w)).get? s.heap.objs.size = some (setO0 w) := Heap.get?_push_size _ rfl
      have tyS : Shared.TypeIs { s with heap := s.heap.push (setO0 w) } (.ref s.heap.objs.size) "set" := ⟨_, atS, rfl⟩
      have d1 := F.called_set.init.lookup
      have d2 := F.called_set.init.bind (.ref s.heap.objs.size)
      repeat (any_goals (first | assumption | wp_step))
      refine codeAny_mono (codeAny_call_builtin (R := wants (fun r u => r = .none ∧ ∃ h' tk, u = { s with heap := h', toks := tk } ∧ SetX w h' s.heap.objs.size (dist xs) ∧ (∀ b o, s.heap.get? b = some o → h'.get? b = some o)) E)
        F.called_set.init.plain F.entry_set_init (check_set_init_1 tyS ?_)) fun r2 u2 hr2 => ?_
      · obtain ⟨ol, ol1, ol2, nl, ol3⟩ := ist
        obtain ⟨ocl, odi, oda, osl⟩ := ol
        simp only at ol2 ol3
        subst ol2; subst ol3
        have atL : (s.heap.push (setO0 w)).get? l = some { cls := .type "tuple", dict := odi, data := .seq its nl, slots := osl } := Heap.get?_push_of_some _ ol1
        have g1 := F.sub_tuple_set
        have g2 := F.sub_tuple_frozenset
        have g3 : (Value.type "tuple" == Value.type "dict") = false := by decide
        have isT : (s.heap.push (setO0 w)).IsTuple l its := ⟨_, atL, rfl, nl, rfl⟩
        unfold Builtin.«set.__init__» noKeywords Builtin.Frozenset.updateFrom
        generalize hid : pyIter = PIT
        wp_walk
        subst hid
        refine wpAny_pyIter_tuple isT ?_
        refine wpAny_bind (wpAny_runValue ?_)
        have old : l < s.heap.objs.size := Heap.lt_size ol1
        have calm3 : A.in1.in1.in1.handled = none := by simp [calm]
        have sz1 : (s.heap.push (setO0 w)).objs.size = s.heap.objs.size + 1 := Heap.size_push ..
        have neI : l ≠ (s.heap.push (setO0 w)).objs.size := by
          rw [sz1]
          exact Nat.ne_of_lt (Nat.lt_succ_of_lt old)
        have away : s.heap.objs.size ∉ [(s.heap.push (setO0 w)).objs.size, l] := by
          rw [sz1]
          simp only [List.mem_cons, List.not_mem_nil, or_false, not_or]
          exact ⟨Nat.ne_of_lt (Nat.lt_succ_self _), Nat.ne_of_gt old⟩
        refine loopX ((Walks.tuple calm3 _ l neI its).toS) s.heap.objs.size away xs many room (fun i v e => textAt tx i v (by rw [Array.getElem?_toList]; exact e)) (its.size - 0) 0 _ (by omega) (Nat.zero_le _)
          ⟨⟨_, Heap.get?_push_size _ rfl, rfl, rfl⟩, isT.push _⟩ ?begin ?finish
        case begin =>
          exact setX_empty (Heap.get?_push_of_some _ atS)
        case finish =>
          intro u mv x
          obtain ⟨h', g', d', tk', os'⟩ := u
          have eg : g' = s.gens := mv.gens
          have ed : d' = s.drawn := mv.drawn
          have eo : os' = s.os := mv.os
          subst eg; subst ed; subst eo
          show wpAny _ _ _ _ _ _
          refine wpAny_pure ?_
          show wpAny _ _ (ret Value.none) _ _ _
          refine wpAny_pure ⟨rfl, h', tk', rfl, x, fun b o e => ?_⟩
          have lt := Heap.lt_size e
          refine mv.heap b o (fun m => ?_) (Heap.get?_push_of_some _ (Heap.get?_push_of_some _ e))
          rw [sz1] at m
          simp only [List.mem_cons, List.not_mem_nil, or_false] at m
          rcases m with q | q <;> rw [q] at lt
          · exact Nat.lt_irrefl _ lt
          · exact Nat.lt_irrefl _ (Nat.lt_of_succ_lt lt)
      · cases r2 with
        | error e => exact hr2
        | ok fl2 =>
          cases fl2 with
          | ret r =>
            obtain ⟨rfl, h', tk, rfl, x, keep⟩ := hr2
            repeat (any_goals (first | assumption | wp_step))
            exact k _ _ x keep
          | _ => exact hr2.elim
    | _ => exact hr.elim
end
end VK
/-! VVals -/
set_option maxRecDepth 100000
set_option maxHeartbeats 4000000
/-! list(d.values()), tuple(d.values()) -/
namespace VK
open PySem PySem.Spec PyProof.Rows L2
section
variable {P : Program} {w : World} {A : Around} {E : Value → Shared → Prop} {s : Shared} {r d : Addr} {n : Nat} {Pv : Nat → Value → Prop} {OK : Heap → Prop} {T : String}
/-- what a view walks, gathered -/
theorem collect_view {Q : List Value → Shared → Prop} (S : PySem.W.KdlSrc P w T r d n Pv OK) (calm : A.handled = none) (ok : OK s.heap) (fit : n ≤ sizeLine)
    (k : ∀ (h' : Heap) (tk : Nat) (out : List Value), s.heap.objs.size < h'.objs.size → (∀ b o, s.heap.get? b = some o → h'.get? b = some o) → out.length = n → (∀ j v, out[j]? = some v → Pv j v) → Q out { s with heap := h', toks := tk }) :
    wpAny (model P w) A (collect (.ref r)) Q E s := by
  unfold collect
  obtain ⟨R, hR⟩ : ∃ R : Result → Shared → Prop, R = wants (fun v u => ∃ h' tk acc c, v = Value.ref s.heap.objs.size ∧ u = { s with heap := h', toks := tk } ∧ (∀ b o, s.heap.get? b = some o → h'.get? b = some o) ∧
    h'.get? s.heap.objs.size = some { cls := .type "list", dict := none, data := .seq acc c, slots := #[] } ∧ ItemsOf Pv acc n) E := ⟨_, rfl⟩
  refine wpAny_bind (wpAny_runValue (codeAny_mono (R := R) (codeAny_builtin F.entry_proto_collect ?_) fun r' u hr => ?_))
  · rw [Around.under_plainId F.plain_proto_collect _]
    show wpAny _ A.in1 (newList [] >>= fun l => again (.builtin "list.__iadd__" ⟨[l, .ref r], []⟩)) _ _ s
    refine wpAny_bind (wpAny_newObj_type ?_)
    refine wpAny_pure ⟨plainId_quiet F.plain_list_iadd _, codeAny_builtin F.entry_list_iadd ?_⟩
    rw [Around.under_plainId F.plain_list_iadd _]
    have e0 : (s.heap.push { cls := .type "list", data := .seq ([] : List Value).toArray }).get? s.heap.objs.size = some { cls := .type "list", data := .seq #[] } := Heap.get?_push_size _ rfl
    have old := S.there _ ok
    show wpAny _ A.in1 (Builtin.List.listExtendWith (.ref s.heap.objs.size) (.ref r) (.ref s.heap.objs.size)) _ _ _
    refine PySem.W.kdl_extend (R := R) (s := { s with heap := s.heap.push { cls := .type "list", data := .seq ([] : List Value).toArray } }) S calm (S.keep _ _ ok fun b _ o e => Heap.get?_push_of_some _ e) _ (Nat.ne_of_gt old.1) (Nat.ne_of_gt old.2) (.ref s.heap.objs.size) _ e0 (fun h' tk acc c keep at' its => ?_) fit
    subst hR
    exact ⟨h', tk, acc, c, rfl, rfl, fun b o e => keep b o (Nat.ne_of_lt (Heap.lt_size e)) (Heap.get?_push_of_some _ e), at', its⟩
  · subst hR
    cases r' with
    | error e => exact hr
    | ok fl =>
      cases fl with
      | ret v =>
        obtain ⟨h', tk, acc, c, rfl, rfl, keep, at', its⟩ := hr
        show wpAny _ A (load s.heap.objs.size >>= _) _ _ _
        refine wpAny_bind (wpAny_load at' ?_)
        refine wpAny_pure ?_
        refine k h' tk acc.toList (Heap.lt_size at') keep ?_ fun j v e => its.2 j v ?_
        · rw [Array.length_toList]
          exact its.1
        · rw [← Array.getElem?_toList]
          exact e
      | _ => exact hr.elim
theorem code_tuple_view {Q₁ : Value → Shared → Prop} (S : PySem.W.KdlSrc P w T r d n Pv OK) (notTup : (Value.type T == Value.type "tuple") = false) (calm : A.handled = none) (ok : OK s.heap) (fit : n ≤ sizeLine)
    (k : ∀ (h' : Heap) (tk : Nat) (out : List Value), s.heap.objs.size < h'.objs.size → (∀ b o, s.heap.get? b = some o → h'.get? b = some o) → out.length = n → (∀ j v, out[j]? = some v → Pv j v) →
      Q₁ (.ref h'.objs.size) { s with heap := h'.push { cls := .type "tuple", data := .seq out.toArray }, toks := tk }) :
    codeAny (model P w) A (.call (.builtin "tuple.__new__") ⟨[.type "tuple", .ref r], []⟩) (wants Q₁ E) s := by
  refine codeAny_of_tree ?_
  show wpAny _ A.in1 (do checkBuiltinCall "tuple.__new__" ⟨[.type "tuple", .ref r], []⟩; again (.builtin "tuple.__new__" ⟨[.type "tuple", .ref r], []⟩)) _ _ s
  refine wpAny_bind (wpAny_of_eq (F.newCall_tuple_1 _) (wpAny_pure ⟨plainId_quiet F.plain_tuple_new _, codeAny_builtin F.entry_tuple_new ?_⟩))
  rw [Around.under_plainId F.plain_tuple_new _]
  have q1 := sub_tuple_self
  have q2 := init_tuple_lookup
  have q3 := madeHere_tuple
  have q4 := S.type s ok
  have calm2 : A.in1.handled = none := calm
  wp_walk using wpAny_typeOf q4, collect_view S calm2 ok fit
  intro h' tk out more keep len its
  show wpAny _ _ (Builtin.Tuple.tupleExact out.toArray >>= fun v => ret v) _ _ _
  unfold Builtin.Tuple.tupleExact
  refine wpAny_bind (wpAny_newObj_type ?_ (by show out.toArray.size ≤ sizeLine; rw [List.size_toArray, len]; exact fit))
  exact wpAny_pure (k h' tk out more keep len its)
theorem call_tuple_view {Q : Value → Shared → Prop} (S : PySem.W.KdlSrc P w T r d n Pv OK) (notTup : (Value.type T == Value.type "tuple") = false) (calm : A.handled = none) (ok : OK s.heap) (fit : n ≤ sizeLine)
    (k : ∀ (h' : Heap) (tk : Nat) (out : List Value), s.heap.objs.size < h'.objs.size → (∀ b o, s.heap.get? b = some o → h'.get? b = some o) → out.length = n → (∀ j v, out[j]? = some v → Pv j v) →
      Q (.ref h'.objs.size) { s with heap := h'.push { cls := .type "tuple", data := .seq out.toArray }, toks := tk }) :
    wpAny (model P w) A (call (.type "tuple") [.ref r]) Q E s := by
  refine callType_codes (Q₁ := fun obj u => u.TypeIs obj "tuple" ∧ Q obj u) F.called_tuple (F.typeCall_tuple_1 _) F.entry_object_init
    (code_tuple_view S notTup (A := A.in1) calm ok fit fun h' tk out more keep len its => ⟨⟨_, Heap.get?_push_size _ rfl, rfl⟩, k h' tk out more keep len its⟩) fun obj u hu => ?_
  exact ⟨hu.1, F.args_object_init_2 obj _, object_init_meets F.called_tuple.init.lookup F.called_tuple.made (by decide) P w A.in1 _ u ⟨hu.1, rfl, hu.2⟩⟩
end
end VK
/-! VSetU -/
set_option maxRecDepth 100000
set_option maxHeartbeats 4000000
/-! sets of texts and dicts' values, as rules: set(xs), len(s), sorted(s), list(d.values()), tuple(d.values()) -/
namespace VK
open PySem PySem.Spec PyProof.Rows L2
/-- the set of the texts xs, each once, at a -/
def SetXO (w : World) (a : Addr) (xs : List Str) : HO := .ext fun h => SetX w h a xs
section
variable {X : Cx}
theorem setXO_ok {w : World} {P : Program} {H : Hp} {h : Heap} {a : Addr} {xs : List Str} (R : SetX w h a xs) : ObjOk P w H h a (SetXO w a xs) := by
  have ⟨o, _, _, _, e, _⟩ := R
  exact ⟨R, ⟨o, e⟩, fun h1 h2 p k => SetX.move p k⟩
theorem setXO_at {pins : List (Addr × Obj)} {σ : L2.St} {H : Hp} {s : Shared} {a : Addr} {xs : List Str} (I : Inv X pins σ H s) (ha : H a = some (SetXO X.w a xs)) : SetX X.w s.heap a xs := (I.hok a _ ha).1
/-- set(l), l a list or a tuple of texts -/
def rSetX (K : PySem.W.Frag) (w : World) : List V → Hp → VK → Prop := fun vs H Q => ∃ (l : Addr) (xs : List Str), vs = [V.ref l] ∧ (SqL K H l (xs.map V.str) ∨ SqT K H l (xs.map V.str)) ∧ xs.length < 1000 ∧
  ∀ p, H p = none → Q (.ref p) (upd H p (SetXO w p (dist xs)))
theorem textsAre : ∀ {ys : List Str} {us : List Value}, Vals (ys.map V.str) us → StrsAre us ys
  | [], _, .nil => .nil
  | y :: ys, _, .cons r t => by
    obtain ⟨k, rfl⟩ := r
    exact .cons y k (textsAre t)
theorem cr_setX (hc : X.calm = true) : CallR X (.type "set") (rSetX X.K X.w) := by
  intro pins s σ H vs us Q I r h
  obtain ⟨l, xs, rfl, hl, n1, q⟩ := h
  rw [Vals.ref1 r]
  have room : xs.length + 1 < scanBound := by
    unfold scanBound
    omega
  have fin : ∀ (h' : Heap) (tk : Nat), SetX X.w h' s.heap.objs.size (dist xs) → (∀ b o, s.heap.get? b = some o → h'.get? b = some o) → EP X pins σ Q (Value.ref s.heap.objs.size) { s with heap := h', toks := tk } := fun h' tk x keep =>
    ⟨.ref _, upd H s.heap.objs.size (SetXO X.w s.heap.objs.size (dist xs)), I.laid (t' := tk) keep (Nat.le_refl _) (setXO_ok x), rfl, q _ (I.hok.fresh (Nat.le_refl _))⟩
  rcases hl with hl | hl
  · obtain ⟨its, rv, pl, hz⟩ := I.list hl
    exact setOfL (I.ok.hd hc) pl.isList (by simpa using textsAre rv) room fin
  · obtain ⟨its, rv, pl, hz⟩ := I.tuple hl
    exact setOfT (I.ok.hd hc) pl (by simpa using textsAre rv) room fin
/-- len(s) of a set of texts -/
def rLenX (w : World) : List V → Hp → VK → Prop := fun vs H Q => ∃ (a : Addr) (xs : List Str), vs = [V.ref a] ∧ H a = some (SetXO w a xs) ∧ xs.length < 1000 ∧ Q (.int xs.length) H
theorem cr_lenX : CallR X (.builtin "len") (rLenX X.w) := by
  intro pins s σ H vs us Q I r h
  obtain ⟨a, xs, rfl, ha, n1, q⟩ := h
  rw [Vals.ref1 r]
  obtain ⟨o, es, ep, t, o1, o2, o3, o4, o5⟩ := (setXO_at I ha).size
  exact call_len_set o1 o2 o3 o4 (by rw [o5]; omega) ⟨.int xs.length, H, I.tok _, ⟨_, by rw [o5]⟩, q⟩
/-- sorted(s) of a set of texts -/
def rSortX (w : World) : List V → Hp → VK → Prop := fun vs H Q => ∃ (a : Addr) (xs : List Str), vs = [V.ref a] ∧ H a = some (SetXO w a xs) ∧ xs.length < 64 ∧
  ∀ (ys : List Str) (p : Addr), ys.Perm xs → H p = none → Q (.ref p) (upd H p (.lst (ys.map V.str)))
theorem sortX {A : Around} {E : Value → Shared → Prop} {P : Program} {w : World} {s : Shared} {a : Addr} {xs : List Str} {Q : Value → Shared → Prop} (R : SetX w s.heap a xs) (calm : A.handled = none) (few : xs.length < 64)
    (k : ∀ s' p (out : Array Value) (c : Nat) (ys : List Str), (∀ b o, s.heap.get? b = some o → s'.heap.get? b = some o) → s'.gens = s.gens → s'.os = s.os → s.heap.objs.size ≤ p →
      s'.heap.get? p = some (seqObj "list" out c) → StrsAre out.toList ys → ys.Perm xs → Q (.ref p) s') :
    wpAny (model P w) A (call (.builtin "sorted") [.ref a]) Q E s := by
  obtain ⟨o, es, ep, t, o1, o2, o3, o4, o5, o6, o7, o8, o9, o10⟩ := R
  refine Calls.call_function_entry kind_sorted plain_sorted entry_sorted (args_sorted1 _) ?_
  unfold Builtin.«sorted»
  refine wpAny_bind (m := checkCount "sorted" 1 1 _) (wpAny_pure ?_)
  refine wpAny_bind (collect_set (A := A.in1) calm ⟨o, o1, o2.1, o3⟩ o8 o7 o9 o10 fun s1 vs keep size1 g1 e1 pm => ?_)
  have shape : ∀ v ∈ vs, ∃ x t, v = Value.str x t := fun v m => by
    obtain ⟨e, he, q⟩ := List.mem_map.mp (pm.mem_iff.mp m)
    obtain ⟨x, t, h1, _⟩ := o4 e he
    exact ⟨x, t, by rw [← q]; exact h1⟩
  have tx : StrsAre vs (vs.map strOf) := strsAre_map vs shape
  have pk : (vs.map strOf).Perm xs := by
    have h1 := pm.map strOf
    rw [List.map_map] at h1
    have h2 : es.toList.map (strOf ∘ fun x => x.2) = es.toList.map txOf := List.map_congr_left fun e m => by
      obtain ⟨x, t, h3, _⟩ := o4 e m
      show strOf e.2 = txOf e
      unfold txOf
      rw [h3]
      rfl
    rw [h2] at h1
    exact h1.trans o5
  have len : vs.length < 64 := by
    have := pk.length_eq
    rw [List.length_map] at this
    omega
  refine wpAny_bind (wpAny_newList ?_ (by rw [sizeLine_eq]; omega))
  have atL : (s1.heap.push (seqObj "list" vs.toArray 0)).get? s1.heap.objs.size = some (seqObj "list" vs.toArray 0) := Heap.get?_push_size _ rfl
  refine wpAny_bind (wpAny_holding (wpAny_call_entry slot_list_sort ⟨_, atL, rfl⟩ entry_list_sort
    (list_sort_treeK strKind_oneLt atL tx.keysOf (fun v₁ v₂ rest e => keyKind_strs (by rw [← e]; exact tx)) len fun st' hp hs => ⟨_, rfl, ?_⟩) (args_list_sort _)))
  obtain ⟨ys, y1, y2, y3⟩ := sorted_out_str tx hp hs
  obtain ⟨c, hcc⟩ := sortedHeap_at (vs := vs) (out := (arrOf st').map (·.2)) atL
  refine wpAny_pure ⟨_, rfl, k _ s1.heap.objs.size _ c ys (fun b u e => ?_) g1 e1 size1 hcc y1 (y2.trans pk)⟩
  have h1 := keep b u e
  have lt := Heap.lt_size h1
  show (sortedHeap (s1.heap.push (seqObj "list" vs.toArray 0)) s1.heap.objs.size vs _).get? b = some u
  rw [sortedHeap_old (Nat.ne_of_lt lt) (by rw [size_push']; exact Nat.lt_succ_of_lt lt)]
  exact Heap.get?_push_of_some _ h1
theorem cr_sortX (hc : X.calm = true) : CallR X (.builtin "sorted") (rSortX X.w) := by
  intro pins s σ H vs us Q I r h
  obtain ⟨a, xs, rfl, ha, few, q⟩ := h
  rw [Vals.ref1 r]
  refine sortX (setXO_at I ha) (I.ok.hd hc) few fun s' p out c ys keep g o hp hg hi hs => ?_
  have fit : (ys.map V.str).length ≤ sizeLine := by
    rw [List.length_map, hs.length_eq, sizeLine_eq]
    omega
  have new : H p = none := I.hok.fresh hp
  have J : Inv X pins σ (upd H p (.lst (ys.map V.str))) { s with heap := s'.heap, gens := s'.gens, drawn := s'.drawn, toks := s'.toks } :=
    I.call (ch := []) (Un.laid keep hp new) (I.hok.laid keep hp ⟨fit, out.toList, c, vals_of_strs hi, hg⟩) (by rw [g]; exact I.bare) (fun _ z => nomatch z)
  obtain ⟨h1, h2, h3, h4, h5⟩ := s'
  have e : h5 = s.os := o
  subst e
  exact ⟨.ref p, _, J, rfl, q ys p hs new⟩
/-! ### the values of a dict -/
theorem vals_snd {kvs : List (Key × V)} {vs : List (Key × Value)} (r : KV kvs vs) : Vals (kvs.map (·.2)) (vs.map (·.2)) := by
  induction r with
  | nil => exact .nil
  | cons h t ih => exact .cons h.2 ih
theorem snd_of {vs : List (Key × Value)} {us : List Value} (len : us.length = vs.length) (h : ∀ (j : Nat) (v : Value), us[j]? = some v → ∃ k, vs[j]? = some (k, v)) : us = vs.map (·.2) := by
  apply List.ext_getElem?
  intro j
  rw [List.getElem?_map]
  cases e : us[j]? with
  | none =>
    have : vs[j]? = none := by
      rw [List.getElem?_eq_none_iff] at e ⊢
      omega
    rw [this]
    rfl
  | some v =>
    obtain ⟨k, h1⟩ := h j v e
    rw [h1]
    rfl
def tValsL (te : TE) : TE := fun σ H Q => te σ H fun x H1 => ∃ (d : Addr) (kvs : List (Key × V)), x = V.ref d ∧ H1 d = some (.dK kvs) ∧ ∀ p, H1 p = none → Q (.ref p) (upd H1 p (.lst (kvs.map (·.2))))
def tValsT (te : TE) : TE := fun σ H Q => te σ H fun x H1 => ∃ (d : Addr) (kvs : List (Key × V)), x = V.ref d ∧ H1 d = some (.dK kvs) ∧ ∀ p, H1 p = none → Q (.ref p) (upd H1 p (.tup (kvs.map (·.2))))
variable {e : Expr} {te : TE} {p apos cpos pos : Pos}
/-- list(e.values()) -/
theorem pe_valsL (hc : X.calm = true) (he : PE X e te) (hg : Gl X "list") (hm : X.mg "list" = none) (hv : bootBuiltins "list" = some (.type "list")) (hbase : attributeBase e "values" X.env (eval e X.env) = eval e X.env := by rfl) (hline : (apos.endLine == cpos.line) = true := by rfl)
    (hs : starEach [.Call (.Attribute e "values" apos) [] [] cpos] X.env = (false, eval (.Call (.Attribute e "values" apos) [] [] cpos) X.env) :: starEach [] X.env := by rfl) :
    PE X (.Call (.Name "list" p) [.Call (.Attribute e "values" apos) [] [] cpos] [] pos) (tValsL te) := by
  refine ⟨fun pins s σ H Q I hq => ?_⟩
  refine wpAny_Call_Name_kw (ld_blt I hg hm hv ?_)
  refine PyProof.Rows.callWith_type1 ?_ hs rfl
  rw [hs]
  show wpAny _ _ (spliced ((false, eval (.Call (.Attribute e "values" apos) [] [] cpos) X.env) :: backTo pos (starEach [] X.env))) _ _ s
  refine Calls.spliced_cons ?_
  refine wpAny_Call_method (T := "dict") (id := "dict.values") hbase rfl hline F.plainAttrs_dict F.slot_dict_values F.type_dict_values (thn (he.run pins s σ H _ I hq) fun u s1 ⟨x, H1, I1, rx, d, kvs, ex, hd, q⟩ => ?_)
  subst ex
  obtain rfl : u = Value.ref d := rx
  obtain ⟨fit, lo, vs, kv, dd⟩ := I1.hok d _ hd
  obtain ⟨ep, at'⟩ := dd.dictAt
  have len : kvs.length = vs.length := Paired.length kv
  have I2 : Inv X pins σ H1 { s1 with heap := s1.heap.push { cls := .type "dict_values", data := .fields #[.ref d] } } := I1.kept (t' := s1.toks) fun b ob q => Heap.get?_push_of_some _ q
  refine ⟨dd.typeIs, dd.mapOf.noDict, ?_⟩
  show wpAny _ _ (callWith cpos (.builtin "dict.values") [.ref d] [] []) _ X.xe s1
  refine method_meetsIn F.slot_dict_values F.entry_dict_values rfl (PySem.evalArgs_none ⟨rfl, dd.typeIs, F.args_dict_values_1 _, _, meets_dict_values (mixKind X.prog X.w) d lo, ⟨⟨vs, dd⟩, ?_⟩⟩)
  refine Calls.spliced_nil ?_
  refine PySem.W.kdl_call (PySem.W.kdl_values (knd := mixKind X.prog X.w) (kvs := vs) (ep := ep)) (I1.ok.hd hc) ⟨⟨_, Heap.get?_push_size _ rfl, rfl, rfl⟩, at'.push _⟩ (by omega) fun h' tk acc c keep atS its => ?_
  have ev : acc.toList = vs.map (·.2) := snd_of (by rw [Array.length_toList]; exact its.1) fun j v ej => its.2 j v (by rw [← Array.getElem?_toList]; exact ej)
  exact ⟨.ref _, upd H1 _ (.lst (kvs.map (·.2))), I2.laid (t' := tk) keep (Nat.le_refl _) ⟨by rw [List.length_map]; exact fit, acc.toList, c, by rw [ev]; exact vals_snd kv, by rw [Array.toArray_toList]; exact atS⟩, rfl, q _ (I2.hok.fresh (Nat.le_refl _))⟩
/-- tuple(e.values()) -/
theorem pe_valsT (hc : X.calm = true) (he : PE X e te) (hg : Gl X "tuple") (hm : X.mg "tuple" = none) (hv : bootBuiltins "tuple" = some (.type "tuple")) (hbase : attributeBase e "values" X.env (eval e X.env) = eval e X.env := by rfl) (hline : (apos.endLine == cpos.line) = true := by rfl)
    (hs : starEach [.Call (.Attribute e "values" apos) [] [] cpos] X.env = (false, eval (.Call (.Attribute e "values" apos) [] [] cpos) X.env) :: starEach [] X.env := by rfl) :
    PE X (.Call (.Name "tuple" p) [.Call (.Attribute e "values" apos) [] [] cpos] [] pos) (tValsT te) := by
  refine ⟨fun pins s σ H Q I hq => ?_⟩
  refine wpAny_Call_Name_kw (ld_blt I hg hm hv ?_)
  refine PyProof.Rows.callWith_type1 ?_ hs rfl
  rw [hs]
  show wpAny _ _ (spliced ((false, eval (.Call (.Attribute e "values" apos) [] [] cpos) X.env) :: backTo pos (starEach [] X.env))) _ _ s
  refine Calls.spliced_cons ?_
  refine wpAny_Call_method (T := "dict") (id := "dict.values") hbase rfl hline F.plainAttrs_dict F.slot_dict_values F.type_dict_values (thn (he.run pins s σ H _ I hq) fun u s1 ⟨x, H1, I1, rx, d, kvs, ex, hd, q⟩ => ?_)
  subst ex
  obtain rfl : u = Value.ref d := rx
  obtain ⟨fit, lo, vs, kv, dd⟩ := I1.hok d _ hd
  obtain ⟨ep, at'⟩ := dd.dictAt
  have len : kvs.length = vs.length := Paired.length kv
  have I2 : Inv X pins σ H1 { s1 with heap := s1.heap.push { cls := .type "dict_values", data := .fields #[.ref d] } } := I1.kept (t' := s1.toks) fun b ob q => Heap.get?_push_of_some _ q
  refine ⟨dd.typeIs, dd.mapOf.noDict, ?_⟩
  show wpAny _ _ (callWith cpos (.builtin "dict.values") [.ref d] [] []) _ X.xe s1
  refine method_meetsIn F.slot_dict_values F.entry_dict_values rfl (PySem.evalArgs_none ⟨rfl, dd.typeIs, F.args_dict_values_1 _, _, meets_dict_values (mixKind X.prog X.w) d lo, ⟨⟨vs, dd⟩, ?_⟩⟩)
  refine Calls.spliced_nil ?_
  refine call_tuple_view (PySem.W.kdl_values (knd := mixKind X.prog X.w) (kvs := vs) (ep := ep)) (by decide) (I1.ok.hd hc) ⟨⟨_, Heap.get?_push_size _ rfl, rfl, rfl⟩, at'.push _⟩ (by omega) fun h' tk out more keep lo2 its => ?_
  have ev : out = vs.map (·.2) := snd_of lo2 its
  exact ⟨.ref _, upd H1 _ (.tup (kvs.map (·.2))), I2.laid (t' := tk) (fun b ob q => Heap.get?_push_of_some _ (keep b ob q)) (Nat.le_of_lt more)
    ⟨by rw [List.length_map]; exact fit, out, by rw [ev]; exact vals_snd kv, ⟨_, Heap.get?_push_size _ rfl, rfl, _, rfl⟩⟩, rfl, q _ (I2.hok.fresh (Nat.le_of_lt more))⟩
end
end VK
/-! K00X -/
set_option maxRecDepth 100000
set_option maxHeartbeats 2000000
/-! is_naming -/
namespace VW
open PySem L2 VK
abbrev snaming : Stmt := topS 16
abbrev NNM : List Str := ["names", "value", "new_names", "name"]
theorem scnaming : FnScope NNM ["names", "value"] (defScope snaming) := ⟨rfl, rfl, rfl, by decide +kernel, rfl, by decide +kernel, by decide +kernel⟩
/-- the text of a value -/
def txV : V → Str
  | .str z => z
  | _ => Str.empty
theorem names_texts : ∀ {xs : List V}, xs.all nameV = true → xs = (xs.map txV).map V.str
  | [], _ => rfl
  | x :: xs, h => by
    rw [List.all_cons, Bool.and_eq_true] at h
    have e : x = V.str (txV x) := by
      cases x with
      | str z => rfl
      | _ => cases h.1
    rw [List.map_cons, List.map_cons, ← e, ← names_texts h.2]
/-- is_naming of the names ts and a dict -/
def namB (ts : List Str) (kvs : List (Key × V)) : Bool := decide (kvs.length = (dist ts).length) && (ts.all fun t => (valV kvs (.inr t)).isSome) && ((kvs.map (·.2)).all nameV && decide ((dist ((kvs.map (·.2)).map txV)).length = kvs.length))
def spNaming (K : PySem.W.Frag) (CO : Addr) : Sp := fun vs H Q E => ∃ nm v b n, vs = [nm, v] ∧ NamesV K H nm b ∧ Kd K H v n ∧ (b = false → ∀ H', Same H H' → E (.ref CO) none H') ∧
  (b = true → ∃ p ts, nm = .ref p ∧ SqT K H p (ts.map V.str) ∧ ts.length < 500 ∧ (n ≠ "dict" → ∀ H', Same H H' → Q (.bl false) H') ∧
    (n = "dict" → ∃ d kvs, v = .ref d ∧ H d = some (.dK kvs) ∧ kvs.length < 500 ∧ (∀ x ∈ kvs.map (·.2), GoodN K H x) ∧ ∀ H', Same H H' → Q (.bl (namB ts kvs)) H'))
section
variable {P : Program} {w : World} {K : PySem.W.Frag} {mg : Str → Option Value} {base : Heap} {CN fN CO : Addr}
theorem ok_naming {f fA : Addr} {fd fdA : FuncData} (F : Fun K "is_naming" "is_naming" snaming f fd) (FA : Fun K "are_names" "are_names" snames fA fdA) (GA : FnOk P w K mg base CX0 2 fA fdA ["value"] (spNames K)) (gA : mg "are_names" = some (.ref fA)) (bA : Binds K fdA ["value"] [])
    (B : Blt mg) (T : Wd mg) (Z : Er K mg CN fN CO) : FnOk P w K mg base (CX P w) 3 f fd ["names", "value"] (spNaming K CO) := by
  refine F.okX scnaming (fun vs H Q E h => ?_) (fun cdv A outer s H vs Q E hr h => ?_)
  · obtain ⟨nm, v, b, n, rfl, _⟩ := h
    rfl
  obtain ⟨nm, v, b, n, rfl, hn, k, q0, q1⟩ := h
  refine ⟨_, (pss_cons (ps_if (pt_not (pt_val (pe_call GA hr rfl gA FA.kp bA .nil pass0 (pa_cons (pv 0) pa_nil)))) (pss_one (ps_raise rfl (takes_of rfl rfl rfl rfl) (pmk_own PySem.F.excBase_ValueError Z.ox Z.og Z.ok (raises_own Z.ob Z.ot) rfl))) pss_nil)
  (PSs.nox (pss_cons (ps_if (PW.pt (pw_or (pt_not (pt_val (pe_callB call_isi (by rfl) B.n_isinstance (by decide +kernel) (pa_cons (pv 1) (pa_cons (pe_bltn (v := .ty "dict") (by rfl) T.n_dict (by decide +kernel) rfl) pa_nil))))) (pw_or1 (pt_cmpR op_ne (pe_callB call_lenD (by rfl) B.n_len (by decide +kernel) (pa_cons (pv 1) pa_nil)) (pe_callB cr_lenX (by rfl) B.n_len (by decide +kernel) (pa_cons (pe_callTy (cr_setX rfl) (by rfl) T.n_set (by decide +kernel) (pa_cons (pv 0) pa_nil)) pa_nil)) (nomark _))))) (pss_one (ps_ret pe_bl)) pss_nil)
  (pss_cons (ps_if (pt_not (pt_val (pe_callB (cr_all rfl) (by rfl) T.n_all (by decide +kernel) (pa_cons (pe_lc (own := [("name", 3)]) (g := gName 3) (tt := tYes) rfl scnaming.nd (pi_tup (pv 0)) (blkOk_by (N := NNM) (sc := defScope snaming) (by decide +kernel)) (fun _ _ _ _ _ => pg_name (i := 3) scnaming.nd rfl (Or.inl rfl)) (fun _ _ _ _ _ => pts_nil) (fun _ _ _ _ _ => (pe_cmp (pc_din (hu_of hr) (pv 3) (pv 1))))) pa_nil)))) (pss_one (ps_ret pe_bl)) pss_nil)
  (pss_cons (ps_set (i := 2) scnaming.nd rfl (Or.inl rfl) (pe_valsT rfl (pv 1) (by rfl) T.n_tuple (by decide +kernel)))
  (pss_one (ps_ret (pe_and (pe_call GA hr rfl gA FA.kp bA .nil pass0 (pa_cons (pv 2) pa_nil)) (pe_one (pe_cmpR op_eq (pe_callB cr_lenX (by rfl) B.n_len (by decide +kernel) (pa_cons (pe_callTy (cr_setX rfl) (by rfl) T.n_set (by decide +kernel) (pa_cons (pv 2) pa_nil)) pa_nil)) (pe_callB call_len_seq (by rfl) B.n_len (by decide +kernel) (pa_cons (pv 2) pa_nil)) (nomark _))))))))))), ?_⟩
  refine ⟨_, rfl, nm, b, rfl, hn, fun H1 s1 => ⟨_, rfl, ?_⟩⟩
  cases b with
  | false => exact q0 rfl H1 s1
  | true =>
    obtain ⟨p, ts, rfl, hp, tl, qn, qd⟩ := q1 rfl
    have hp1 := sqT_same s1 hp
    refine ⟨_, rfl, _, _, _, _, _, rfl, .ty _, (k.same s1).1, k.isS "dict" (by decide), _, rfl, ?_⟩
    by_cases hd : n = "dict"
    · obtain ⟨d, kvs, rfl, hk, kl, good, q⟩ := qd hd
      refine ite2 (fun hc => absurd (by rw [hd]; rfl) (fun z : (n == "dict") = true => by rw [z] at hc; cases hc)) (fun _ => ?_)
      have dl := dist_len ts
      refine ⟨_, rfl, d, kvs, rfl, s1 _ _ hk, _, rfl, p, ts, rfl, .inr hp1, by omega, fun m1 n1 => ⟨m1, dist ts, rfl, upd_same, by omega, rfl, _, rfl, ?_⟩⟩
      have s2 := s1.trans (sm (o := SetXO w m1 (dist ts)) n1)
      refine ite2 (fun hc => ?_) (fun hc => ?_)
      · have ne : kvs.length ≠ (dist ts).length := fun z => by
          rw [z] at hc
          simp at hc
        have e : namB ts kvs = false := by
          unfold namB
          rw [decide_eq_false ne]
          rfl
        have qq := q _ s2
        rw [e] at qq
        exact qq
      · have eq : kvs.length = (dist ts).length := by
          simp at hc
          omega
        have hp2 := sqT_same s2 hp
        refine ⟨_, rfl, p, rfl, ⟨_, hp2⟩, fun D hD => lc_tup (xs := ts.map V.str) (g := gName 3) (tt := tYes) (te := tDIn (tVar 3) (tVar 1)) (fun i H' => Same (upd H1 m1 (SetXO w m1 (dist ts))) H' ∧ H' D = some (.lst (((ts.take i).map fun t => (valV kvs (.inr t)).isSome).map V.bl))) ⟨sm hD, upd_same⟩ (fun i H' _ e => sqT_same e.1 hp2) (fun i x H' hxi e => ?_) (fun H' e => ?_)⟩
        · obtain ⟨s3, hL⟩ := e
          rw [List.getElem?_map] at hxi
          cases ht : ts[i]? with
          | none =>
            rw [ht] at hxi
            cases hxi
          | some t =>
            rw [ht] at hxi
            obtain rfl : V.str t = x := Option.some.inj hxi
            refine ⟨rfl, _, rfl, _, rfl, d, valV kvs (.inr t), rfl, DGet.k (k := Sum.inr t) (s3 _ _ (s2 _ _ hk)), _, hL, ?_, fun b o eo => ?_, ?_⟩
            · simp only [List.length_map, List.length_take]
              have : (500 : Nat) < sizeLine := by decide
              omega
            · exact (upd_ne (ne_of_none eo hD)).trans (s3 _ _ eo)
            · rw [List.take_add_one, ht, Option.toList_some, List.map_append, List.map_append]
              exact upd_same
        · obtain ⟨s3, hL⟩ := e
          rw [List.length_map, List.take_length] at hL
          refine ⟨_, _, rfl, SqL.of hL, ?_⟩
          have s4 := s2.trans s3
          have ea : (ts.map fun t => (valV kvs (.inr t)).isSome).all id = ts.all fun t => (valV kvs (.inr t)).isSome := by
            rw [List.all_map]
            rfl
          refine ⟨_, rfl, ?_⟩
          rw [ea]
          cases hall : ts.all fun t => (valV kvs (.inr t)).isSome with
          | false =>
            have e : namB ts kvs = false := by
              unfold namB
              rw [hall, Bool.and_false, Bool.false_and]
            have qq := q _ s4
            rw [e] at qq
            exact qq
          | true =>
            have en : namB ts kvs = ((kvs.map (·.2)).all nameV && decide ((dist ((kvs.map (·.2)).map txV)).length = kvs.length)) := by
              unfold namB
              rw [hall, decide_eq_true eq]
              rfl
            refine ⟨_, rfl, d, kvs, rfl, s4 _ _ hk, fun p2 n2 => ?_⟩
            have s5 := s4.trans (sm (o := .tup (kvs.map (·.2))) n2)
            have t5 : SqT K (upd H' p2 (.tup (kvs.map (·.2)))) p2 (kvs.map (·.2)) := SqT.of upd_same
            have bl : kvs.length < sizeLine := Nat.lt_of_lt_of_le kl (by decide)
            refine ⟨_, rfl, .ref p2, (kvs.map (·.2)).all nameV, rfl, ⟨"tuple", ⟨tyX_tup t5, by decide⟩, .inr ⟨rfl, p2, _, rfl, t5, by rw [List.length_map]; exact bl, fun x hx => (good x hx).same s5, rfl⟩⟩, fun H6 s6 => ?_⟩
            have s7 := s5.trans s6
            cases hnm : (kvs.map (·.2)).all nameV with
            | false =>
              rw [hnm, Bool.false_and] at en
              have qq := q _ s7
              rw [en] at qq
              exact ⟨_, rfl, qq⟩
            | true =>
              rw [hnm, Bool.true_and] at en
              have tx := names_texts hnm
              have t6 : SqT K H6 p2 (((kvs.map (·.2)).map txV).map V.str) := by
                rw [← tx]
                exact sqT_same s6 t5
              have l2 : ((kvs.map (·.2)).map txV).length = kvs.length := by rw [List.length_map, List.length_map]
              have d2 := dist_len ((kvs.map (·.2)).map txV)
              refine ⟨true, rfl, _, rfl, p2, _, rfl, .inr t6, by omega, fun m2 n3 => ?_⟩
              have t7 : SqT K (upd H6 m2 (SetXO w m2 (dist ((kvs.map (·.2)).map txV)))) p2 (kvs.map (·.2)) := sqT_same (s6.trans (sm (o := SetXO w m2 (dist ((kvs.map (·.2)).map txV))) n3)) t5
              refine ⟨m2, dist ((kvs.map (·.2)).map txV), rfl, upd_same, by omega, _, rfl, p2, _, rfl, .inr t7, rfl, ?_⟩
              have qq := q _ (s7.trans (sm (o := SetXO w m2 (dist ((kvs.map (·.2)).map txV))) n3))
              rw [en] at qq
              have ed : decide (V.int ((dist ((kvs.map (·.2)).map txV)).length : Nat) = V.int ((kvs.map (·.2)).length : Nat)) = decide ((dist ((kvs.map (·.2)).map txV)).length = kvs.length) := by
                rw [List.length_map]
                exact decide_eq_decide.mpr ⟨fun z => Int.ofNat.inj (V.int.inj z), fun z => by rw [z]⟩
              rw [← ed] at qq
              exact qq
    · refine ite2 (fun _ => qn hd H1 s1) (fun hc => absurd ?_ hc)
      have : (n == "dict") = false := beq_eq_false_iff_ne.mpr hd
      rw [this]
      rfl
end
end VW
/-! K00Y -/
set_option maxRecDepth 100000
set_option maxHeartbeats 1000000
/-! what dicts of names to names are worth; what is_naming is asked -/
namespace VW
open PySem PySem.Spec PyProof.Rows L2 VK LamX
/-- pairs of texts, as a dict's entries -/
def prs (ps : List (Str × Str)) : List (Key × V) := ps.map fun p => (Sum.inr p.1, V.str p.2)
theorem prs_fst (ps : List (Str × Str)) : (prs ps).map (·.1) = (ps.map (·.1)).map Sum.inr := by
  unfold prs
  rw [List.map_map, List.map_map]
  rfl
theorem prs_snd (ps : List (Str × Str)) : (prs ps).map (·.2) = (ps.map (·.2)).map V.str := by
  unfold prs
  rw [List.map_map, List.map_map]
  rfl
theorem prs_len (ps : List (Str × Str)) : (prs ps).length = ps.length := List.length_map _
theorem prs_app (ps qs : List (Str × Str)) : prs (ps ++ qs) = prs ps ++ prs qs := List.map_append
theorem some_iff (kvs : List (Key × V)) (k : Key) : (valV kvs k).isSome = true ↔ k ∈ kvs.map (·.1) := by
  cases e : valV kvs k with
  | none => exact ⟨(fun z => nomatch z), fun z => absurd z (valV_not e)⟩
  | some v => exact ⟨fun _ => valV_in e, fun _ => rfl⟩
theorem inr_mem {l : List Str} {z : Str} : (Sum.inr z : Key) ∈ l.map Sum.inr ↔ z ∈ l := by
  rw [List.mem_map]
  exact ⟨fun ⟨y, h, e⟩ => by cases e; exact h, fun h => ⟨z, h, rfl⟩⟩
theorem put_new {ps : List (Str × Str)} {z v : Str} (h : z ∉ ps.map (·.1)) : putK (prs ps) (.inr z) (.str v) = prs (ps ++ [(z, v)]) := by
  rw [putK_new, prs_app]
  · rfl
  · cases e : valV (prs ps) (.inr z) with
    | none => rfl
    | some x =>
      have := valV_in e
      rw [prs_fst, inr_mem] at this
      exact absurd this h
/-- keys behind a put: as before, or one more -/
theorem put_keys (kvs : List (Key × V)) (k : Key) (v : V) : (putK kvs k v).map (·.1) = if (valV kvs k).isSome = true then kvs.map (·.1) else kvs.map (·.1) ++ [k] := by
  unfold putK
  rw [valV_any]
  by_cases c : (valV kvs k).isSome = true
  · rw [if_pos c, if_pos c, List.map_map]
    exact List.map_congr_left fun x _ => by
      show (if x.1 = k then (x.1, v) else x).1 = x.1
      split <;> rfl
  · rw [if_neg c, if_neg c, List.map_append]
    rfl
theorem put_vals (kvs : List (Key × V)) (k : Key) (v x : V) (h : x ∈ (putK kvs k v).map (·.2)) : x = v ∨ x ∈ kvs.map (·.2) := by
  unfold putK at h
  split at h
  · rw [List.map_map] at h
    obtain ⟨q, hq, e⟩ := List.mem_map.mp h
    have e' : (if q.1 = k then (q.1, v) else q).2 = x := e
    split at e'
    · exact .inl e'.symm
    · exact .inr (List.mem_map.mpr ⟨q, hq, e'⟩)
  · rw [List.map_append, List.mem_append] at h
    rcases h with h | h
    · exact .inr h
    · exact .inl (List.mem_singleton.mp h)
theorem merge_gen : ∀ (qs : List (Str × Str)) (kvs : List (Key × V)) (acc : List Str), kvs.map (·.1) = acc.reverse.map Sum.inr →
    (mergeK kvs (prs qs)).map (·.1) = ((qs.map (·.1)).foldl addX acc).reverse.map Sum.inr ∧ ∀ x ∈ (mergeK kvs (prs qs)).map (·.2), x ∈ kvs.map (·.2) ∨ ∃ q ∈ qs, x = .str q.2
  | [], kvs, acc, h => ⟨h, fun x hx => .inl hx⟩
  | q :: qs, kvs, acc, h => by
    have step : (putK kvs (.inr q.1) (.str q.2)).map (·.1) = (addX acc q.1).reverse.map Sum.inr := by
      have e : (valV kvs (.inr q.1)).isSome = true ↔ q.1 ∈ acc := by
        rw [some_iff, h]
        exact inr_mem.trans List.mem_reverse
      rw [put_keys, h]
      unfold addX
      by_cases c : q.1 ∈ acc
      · rw [if_pos (e.mpr c), if_pos c]
      · rw [if_neg (fun z => c (e.mp z)), if_neg c, List.reverse_cons, List.map_append]
        rfl
    obtain ⟨h1, h2⟩ := merge_gen qs _ _ step
    refine ⟨h1, fun x hx => ?_⟩
    rcases h2 x hx with h3 | ⟨r, hr, e⟩
    · rcases put_vals _ _ _ _ h3 with e | h4
      · exact .inr ⟨q, List.mem_cons_self, e⟩
      · exact .inl h4
    · exact .inr ⟨r, List.mem_cons_of_mem _ hr, e⟩
theorem merge_len (qs : List (Str × Str)) : (mergeK [] (prs qs)).length = (dist (qs.map (·.1))).length := by
  have h := congrArg List.length (merge_gen qs [] [] rfl).1
  rwa [List.length_map, List.length_map, List.length_reverse] at h
theorem merge_vals (qs : List (Str × Str)) (x : V) (h : x ∈ (mergeK [] (prs qs)).map (·.2)) : ∃ q ∈ qs, x = .str q.2 := by
  rcases (merge_gen qs [] [] rfl).2 x h with h | h
  · cases h
  · exact h
theorem nodup_len {l m : List Str} (h1 : l.Nodup) (h2 : m.Nodup) (h : ∀ z, z ∈ l ↔ z ∈ m) : l.length = m.length := ((List.perm_ext_iff_of_nodup h1 h2).mpr h).length_eq
theorem dist_len_nodup {l : List Str} (h : l.Nodup) : (dist l).length = l.length := nodup_len (dist_nodup l) h (dist_mem l)
theorem dist_snoc {l : List Str} {z : Str} (h : z ∉ l) : (dist (l ++ [z])).length = (dist l).length + 1 := by
  have e : dist (l ++ [z]) = addX (dist l) z := by
    unfold dist
    rw [List.foldl_append]
    rfl
  rw [e]
  unfold addX
  rw [if_neg (fun m => h ((dist_mem l z).mp m)), List.length_cons]
/-- the names that are drawn -/
def nmOk (y : Str) : Prop := y ∈ (["a", "b", "c", "rim"] : List Str)
theorem nmOk_name {y : Str} (h : nmOk y) : nameS y = true ∧ y.length ≤ 10 := by
  unfold nmOk at h
  simp only [List.mem_cons, List.not_mem_nil, or_false] at h
  rcases h with rfl | rfl | rfl | rfl <;> exact ⟨by decide +kernel, by decide +kernel⟩
def vlOk (y : Str) : Prop := y ∈ (["a", "b", "zz", "q", "w"] : List Str)
theorem vlOk_name {y : Str} (h : vlOk y) : nameS y = true ∧ y.length ≤ 10 := by
  unfold vlOk at h
  simp only [List.mem_cons, List.not_mem_nil, or_false] at h
  rcases h with rfl | rfl | rfl | rfl | rfl <;> exact ⟨by decide +kernel, by decide +kernel⟩
/-- the told answer for the drawn dict -/
theorem namB_some {ts : List Str} {ps : List (Str × Str)} (h : (ps.map (·.1)).Perm (dist ts)) (hv : ∀ p ∈ ps, vlOk p.2) : namB ts (prs ps) = decide ((dist (ps.map (·.2))).length = ps.length) := by
  have l : ps.length = (dist ts).length := by
    have := h.length_eq
    rwa [List.length_map] at this
  have h1 : (ts.all fun t => (valV (prs ps) (.inr t)).isSome) = true := List.all_eq_true.mpr fun t ht => by
    rw [some_iff, prs_fst, inr_mem]
    exact h.mem_iff.mpr ((dist_mem ts t).mpr ht)
  have h2 : ((prs ps).map (·.2)).all nameV = true := List.all_eq_true.mpr fun x hx => by
    rw [prs_snd, List.map_map] at hx
    obtain ⟨p, hp, rfl⟩ := List.mem_map.mp hx
    exact (vlOk_name (hv p hp)).1
  have h3 : ((prs ps).map (·.2)).map txV = ps.map (·.2) := by
    rw [prs_snd, List.map_map]
    exact List.map_id'' (fun _ => rfl) _
  unfold namB
  rw [h1, h2, h3, prs_len, decide_eq_true l]
  rfl
theorem namB_len {ts : List Str} {kvs : List (Key × V)} (h : kvs.length ≠ (dist ts).length) : namB ts kvs = false := by
  unfold namB
  rw [decide_eq_false h]
  rfl
theorem pairedSnoc {α β : Type} {F : α → β → Prop} : ∀ {xs : List α} {ys : List β} {x : α} {y : β}, Paired F xs ys → F x y → Paired F (xs ++ [x]) (ys ++ [y])
  | _, _, _, _, .nil, h => .cons h .nil
  | _, _, _, _, .cons a r, h => .cons a (pairedSnoc r h)
theorem pairedDrop {α β : Type} {F : α → β → Prop} {xs : List α} {ys : List β} (h : Paired F xs ys) : Paired F (xs.drop 1) (ys.drop 1) := by
  cases h with
  | nil => exact .nil
  | cons a r => exact r
theorem cut1 (xs : List V) : cutV xs (some 1) none = xs.drop 1 := by
  unfold cutV
  rw [HT.sIx_none, show (1 : Int) = ((1 : Nat) : Int) from rfl, HT.sIx_nat]
  cases xs with
  | nil => rfl
  | cons x r => simp
section
variable {K : PySem.W.Frag} {H : Hp} {CO tw d : Addr} {ts : List Str} {Q : VK} {E : XK}
theorem good_str {z : Str} (h : z.length ≤ 20) : GoodN K H (.str z) := ⟨"str", ⟨.base (.str _), by decide⟩, fun y e => by cases e; exact Nat.le_trans h (by decide)⟩
theorem names_of (hp : SqT K H tw (ts.map V.str)) (hw : ∀ y ∈ ts, nameS y = true ∧ y.length ≤ 10) (hl : ts.length < 500) : NamesV K H (.ref tw) true := by
  refine ⟨"tuple", ⟨tyX_tup hp, by decide⟩, .inr ⟨rfl, tw, _, rfl, hp, ?_, fun x hx => ?_, ?_⟩⟩
  · rw [List.length_map]
    exact Nat.lt_trans hl (by decide)
  · obtain ⟨y, hy, rfl⟩ := List.mem_map.mp hx
    exact good_str (by have := (hw y hy).2; omega)
  · symm
    exact List.all_eq_true.mpr fun x hx => by
      obtain ⟨y, hy, rfl⟩ := List.mem_map.mp hx
      exact (hw y hy).1
/-- is_naming of right names and a dict -/
theorem ask_dict {kvs : List (Key × V)} (hp : SqT K H tw (ts.map V.str)) (hw : ∀ y ∈ ts, nameS y = true ∧ y.length ≤ 10) (hl : ts.length < 500) (hd : H d = some (.dK kvs)) (hk : kvs.length < 500) (hg : ∀ x ∈ kvs.map (·.2), GoodN K H x)
    (q : ∀ H', Same H H' → Q (.bl (namB ts kvs)) H') : spNaming K CO [.ref tw, .ref d] H Q E :=
  ⟨.ref tw, .ref d, true, "dict", rfl, names_of hp hw hl, ⟨.base (.dK hd), by decide⟩, (fun z => nomatch z), fun _ => ⟨tw, ts, rfl, hp, hl, fun z => absurd rfl z, fun _ => ⟨d, kvs, rfl, hd, hk, hg, q⟩⟩⟩
/-- the same, the answer told -/
theorem ask_dictB {b : Bool} {kvs : List (Key × V)} (eb : namB ts kvs = b) (hp : SqT K H tw (ts.map V.str)) (hw : ∀ y ∈ ts, nameS y = true ∧ y.length ≤ 10) (hl : ts.length < 500) (hd : H d = some (.dK kvs)) (hk : kvs.length < 500) (hg : ∀ x ∈ kvs.map (·.2), GoodN K H x)
    (q : ∀ H', Same H H' → Q (.bl b) H') : spNaming K CO [.ref tw, .ref d] H Q E := ask_dict hp hw hl hd hk hg (eb ▸ q)
/-- is_naming of right names and what is no dict -/
theorem ask_odd {v : V} {n : String} (hp : SqT K H tw (ts.map V.str)) (hw : ∀ y ∈ ts, nameS y = true ∧ y.length ≤ 10) (hl : ts.length < 500) (k : Kd K H v n) (ne : n ≠ "dict") (q : ∀ H', Same H H' → Q (.bl false) H') : spNaming K CO [.ref tw, v] H Q E :=
  ⟨.ref tw, v, true, n, rfl, names_of hp hw hl, k, (fun z => nomatch z), fun _ => ⟨tw, ts, rfl, hp, hl, fun _ => q, fun z => absurd z ne⟩⟩
/-- is_naming of what are no names -/
theorem ask_bad {nm v : V} {n : String} (h : NamesV K H nm false) (k : Kd K H v n) (q : ∀ H', Same H H' → E (.ref CO) none H') : spNaming K CO [nm, v] H Q E :=
  ⟨nm, v, false, n, rfl, h, k, fun _ => q, fun z => nomatch z⟩
/-- what is_naming of right names refuses -/
def OddN (K : PySem.W.Frag) (H : Hp) (ts : List Str) (x : V) : Prop := ∃ n, Kd K H x n ∧ (n = "dict" → ∃ d kvs, x = .ref d ∧ H d = some (.dK kvs) ∧ kvs.length < 500 ∧ (∀ y ∈ kvs.map (·.2), GoodN K H y) ∧ namB ts kvs = false)
theorem OddN.same {K : PySem.W.Frag} {H H' : Hp} {ts : List Str} {x : V} (s : Same H H') (o : OddN K H ts x) : OddN K H' ts x := by
  obtain ⟨n, k, h⟩ := o
  refine ⟨n, k.same s, fun e => ?_⟩
  obtain ⟨d, kvs, h1, h2, h3, h4, h5⟩ := h e
  exact ⟨d, kvs, h1, s _ _ h2, h3, fun y hy => (h4 y hy).same s, h5⟩
theorem oddNs {K : PySem.W.Frag} {H : Hp} {ts : List Str} {l t e : Addr} {xs ys : List V} {kvs : List (Key × V)} (hl : H l = some (.lst xs)) (ht : H t = some (.tup ys)) (he : H e = some (.dK kvs)) (h3 : kvs.length < 500) (h4 : ∀ y ∈ kvs.map (·.2), GoodN K H y) (h5 : namB ts kvs = false) :
    ∀ x ∈ [V.non, .int 0, .str "a", .ref l, .ref t, .ref e], OddN K H ts x := by
  intro x hx
  simp only [List.mem_cons, List.not_mem_nil, or_false] at hx
  rcases hx with rfl | rfl | rfl | rfl | rfl | rfl
  · exact ⟨"NoneType", ⟨.base .non, by decide⟩, fun z => absurd z (by decide)⟩
  · exact ⟨"int", kd_int, fun z => absurd z (by decide)⟩
  · exact ⟨"str", ⟨.base (.str _), by decide⟩, fun z => absurd z (by decide)⟩
  · exact ⟨"list", ⟨.base (.lst hl), by decide⟩, fun z => absurd z (by decide)⟩
  · exact ⟨"tuple", ⟨.base (.tup ht), by decide⟩, fun z => absurd z (by decide)⟩
  · exact ⟨"dict", ⟨.base (.dK he), by decide⟩, fun _ => ⟨e, kvs, rfl, he, h3, h4, h5⟩⟩
/-- what are no names -/
theorem badNames {l t5 t6 t7 e : Addr} (h0 : H l = some (.lst [.str "a"])) (h5 : H t5 = some (.tup [.str "a", .int 1])) (h6 : H t6 = some (.tup [.str "A"])) (h7 : H t7 = some (.tup [.str ""])) (he : H e = some (.dK [])) :
    ∀ v ∈ [V.non, .int 0, .str "a", .ref l, .ref t5, .ref t6, .ref t7, .ref e], NamesV K H v false := by
  have sl : ∀ {n : Nat}, n ≤ 10 → n < sizeLine := fun h => Nat.lt_of_le_of_lt h (by decide)
  intro v hv
  simp only [List.mem_cons, List.not_mem_nil, or_false] at hv
  rcases hv with rfl | rfl | rfl | rfl | rfl | rfl | rfl | rfl
  · exact ⟨"NoneType", ⟨.base .non, by decide⟩, .inl ⟨by decide, rfl⟩⟩
  · exact ⟨"int", kd_int, .inl ⟨by decide, rfl⟩⟩
  · exact ⟨"str", ⟨.base (.str _), by decide⟩, .inl ⟨by decide, rfl⟩⟩
  · exact ⟨"list", ⟨.base (.lst h0), by decide⟩, .inl ⟨by decide, rfl⟩⟩
  · refine ⟨"tuple", ⟨.base (.tup h5), by decide⟩, .inr ⟨rfl, t5, _, rfl, SqT.of h5, sl (by decide), fun x hx => ?_, by decide +kernel⟩⟩
    rcases List.mem_cons.mp hx with rfl | hx
    · exact good_str (by decide)
    · rw [List.mem_singleton.mp hx]
      exact ⟨"int", kd_int, fun z e => nomatch e⟩
  · refine ⟨"tuple", ⟨.base (.tup h6), by decide⟩, .inr ⟨rfl, t6, _, rfl, SqT.of h6, sl (by decide), fun x hx => ?_, by decide +kernel⟩⟩
    rw [List.mem_singleton.mp hx]
    exact good_str (by decide)
  · refine ⟨"tuple", ⟨.base (.tup h7), by decide⟩, .inr ⟨rfl, t7, _, rfl, SqT.of h7, sl (by decide), fun x hx => ?_, by decide +kernel⟩⟩
    rw [List.mem_singleton.mp hx]
    exact good_str (by decide)
  · exact ⟨"dict", ⟨.base (.dK he), by decide⟩, .inl ⟨by decide, rfl⟩⟩
end
end VW
/-! K00AA -/
set_option maxRecDepth 100000
set_option maxHeartbeats 1000000
/-! _law_namings_right -/
namespace VW
open PySem PySem.Spec PyProof.Rows L2 VK LamX
abbrev snamr : Stmt := topS 36
abbrev NNR : List Str := ["_law_dice_here", "_law_names", "_law_some", "_law_name", "_law_due", "_law_more", "_law_less", "_law_odd", "_law_bad", "_law_turn", "_law_value"]
theorem scnamr : FnScope NNR ["_law_dice_here"] (defScope snamr) := ⟨rfl, rfl, rfl, by decide +kernel, rfl, by decide +kernel, by decide +kernel⟩
abbrev exP (y : Str) : Str × Str := (y, y ++ "!")
abbrev exT : Str × Str := ("x", "y")
abbrev oth : Str × Str := ("other", "v")
theorem if_contH {c : Bool} {X : Prop} {Qf : Hp → Prop} {Hk : Hp} {R : Hp → Prop} (cont : ∀ Hk, R Hk → Qf Hk) (r : R Hk) (h : c = true → (∀ Hk, R Hk → Qf Hk) → X) : if c = true then X else Qf Hk := by
  cases c with
  | true => exact h rfl cont
  | false => exact cont Hk r
theorem unstr {us : List V} {l : List Str} (h : us.Perm (l.map V.str)) : ∃ zs : List Str, us = zs.map V.str ∧ zs.Perm l := by
  have e : us = (us.map txV).map V.str := by
    rw [List.map_map]
    symm
    refine (List.map_congr_left (g := id) fun x hx => ?_).trans (List.map_id _)
    obtain ⟨y, _, rfl⟩ := List.mem_map.mp (h.mem_iff.mp hx)
    rfl
  refine ⟨us.map txV, e, ?_⟩
  have h2 := h.map txV
  rw [List.map_map] at h2
  exact h2.trans (List.Perm.of_eq (List.map_id'' (fun _ => rfl) l))
section
variable {P : Program} {w : World} {K : PySem.W.Frag} {mg : Str → Option Value} {base : Heap} {CN fN CO : Addr}
theorem ok_namings {T : List (Addr × Str)} {cR pR f fE fP fR fX fG : Addr} {fd fdE fdP fdR fdX fdG : FuncData} (F : FunC K "_law_namings_right" "_law_namings_right" snamr f fd cR)
    (FE : Fun K "_law_error" "_law_error" serr fE fdE) (gE : mg "_law_error" = some (.ref fE)) (bE : L2.Binds K fdE ["_law_call"] [])
    (FP : Fun K "_law_pick" "_law_pick" spick fP fdP) (GP : FnOk P w K mg base L2.CX0 2 fP fdP ["_law_dice_here", "_law_items"] spPick) (gP : mg "_law_pick" = some (.ref fP)) (bP : L2.Binds K fdP ["_law_dice_here", "_law_items"] [])
    (FR : Fun K "_law_roll" "_law_roll" sroll fR fdR) (GR : FnOk P w K mg base L2.CX0 1 fR fdR ["_law_dice_here", "_law_total"] spRoll) (gR : mg "_law_roll" = some (.ref fR)) (bR : L2.Binds K fdR ["_law_dice_here", "_law_total"] [])
    (FX : Fun K "_law_mixed" "_law_mixed" smixed fX fdX) (GX : FnOk P w K mg base L2.CX0 2 fX fdX ["_law_dice_here", "_law_items"] (spMixed K)) (gX : mg "_law_mixed" = some (.ref fX)) (bX : L2.Binds K fdX ["_law_dice_here", "_law_items"] [])
    (FG : Fun K "is_naming" "is_naming" snaming fG fdG) (GG : FnOk P w K mg base (L2.CX P w) 3 fG fdG ["names", "value"] (spNaming K CO)) (gG : mg "is_naming" = some (.ref fG)) (bG : L2.Binds K fdG ["names", "value"] [])
    (B : Blt mg) (Wt : Wd mg) (Z : Er K mg CN fN CO) (Y : Ex K CN CO) (TB : TabB base mg cR pR) (hmT : (pR, ("_law_namings_right.<locals>.<lambda>" : Str)) ∈ T) (huT : ∀ p ∈ T, p.1 = pR → p.2 = ("_law_namings_right.<locals>.<lambda>" : Str)) :
    FnG P w K mg base L2.CX0 7 f fd ["_law_dice_here"] (spRefused T) := by
  refine FunC.okG F scnamr (fun vs H Q E h => ?_) (fun A outer s H vs Q E hg hr h => ?_)
  · obtain ⟨d, rfl, _⟩ := h
    rfl
  obtain ⟨d, rfl, hd, ht, q⟩ := h
  have hr1 : Room 1 _ := hr.mono (by decide)
  have hr2 : Room 2 _ := hr.mono (by decide)
  have hr3 : Room 3 _ := hr.mono (by decide)
  have hu : (A.deeper (PyProof.Rows.envOfC "_law_namings_right" (defScope snamr) s.heap.objs.size f (.ref cR))).units + 64 < cLine := hr.units
  have er := fun {params : Arguments} {body : Expr} {scope : Scope} {t : XK → TE} {p lpos pos : Pos} (L : LamS (defScope snamr) scope) (hdef) (hbind) (hbody) => pe_err (X := (cxOf L2.CX0 P w K mg base NNR "_law_namings_right" (defScope snamr) f (.ref cR) A outer s H E).nox) (T := T) (params := params) (body := body) (scope := scope) (t := t) (p := p) (lpos := lpos) (pos := pos) hg rfl gE FE bE B Z Y TB rfl hmT huT hr L hdef hbind hbody
  refine ⟨_, PSs.nox (pss_cons (ps_set (i := 1) scnamr.nd rfl (Or.inr rfl) (pe_callTy call_tuple_of (by rfl) Wt.n_tuple (by decide +kernel) (pa_cons (pe_lc (own := [("_law_turn", 9)]) (g := gName 9) (tt := tYes) rfl scnamr.nd (pi_range1 rfl B.n_range (pa_cons (pe_call GR hr1 rfl gR FR.kp bR .nil L2.pass0 (pa_cons (pv 0) (pa_cons pe_int pa_nil))) pa_nil)) (blkOk_by (N := NNR) (sc := defScope snamr) (by decide +kernel)) (fun _ _ _ _ _ => pg_name (i := 9) scnamr.nd rfl (Or.inl rfl)) (fun _ _ _ _ _ => pts_nil) (fun _ _ _ _ _ => (pe_call GP hr2 rfl gP FP.kp bP .nil L2.pass0 (pa_cons (pv 0) (pa_cons (pe_lst (pa_cons pe_str (pa_cons pe_str (pa_cons pe_str (pa_cons pe_str pa_nil))))) pa_nil))))) pa_nil)))
  (pss_cons (ps_set (i := 2) scnamr.nd rfl (Or.inl rfl) pe_dnewK)
  (pss_cons (ps_for PassesOwn.never rfl (pi_list (pe_call GX hr2 rfl gX FX.kp bX .nil L2.pass0 (pa_cons (pv 0) (pa_cons (pe_callB (cr_sortX rfl) (by rfl) Wt.n_sorted (by decide +kernel) (pa_cons (pe_callTy (cr_setX rfl) (by rfl) Wt.n_set (by decide +kernel) (pa_cons (pv 1) pa_nil)) pa_nil)) pa_nil)))) (pg_name (i := 3) scnamr.nd rfl (Or.inl rfl)) (pss_one (ps_dput (hu_of hr) (pv 2) (pv 3) (pe_call GP hr2 rfl gP FP.kp bP .nil L2.pass0 (pa_cons (pv 0) (pa_cons (pe_lst (pa_cons pe_str (pa_cons pe_str (pa_cons pe_str (pa_cons pe_str (pa_cons pe_str pa_nil)))))) pa_nil))) rfl)))
  (pss_cons (ps_set (i := 4) scnamr.nd rfl (Or.inl rfl) (pe_cmpR op_eq (pe_callB cr_lenX (by rfl) B.n_len (by decide +kernel) (pa_cons (pe_callTy (cr_setX rfl) (by rfl) Wt.n_set (by decide +kernel) (pa_cons (pe_valsL rfl (pv 2) (by rfl) Wt.n_list (by decide +kernel)) pa_nil)) pa_nil)) (pe_callB call_lenD (by rfl) B.n_len (by decide +kernel) (pa_cons (pv 2) pa_nil)) (nomark _)))
  (pss_cons (ps_if (pt_cmpR op_ne (pe_callB (call_reprD hg hu) (by rfl) B.n_repr (by decide +kernel) (pa_cons (pe_call GG hr3 rfl gG FG.kp bG .nil pass_none (pa_cons (pv 1) (pa_cons (pv 2) pa_nil))) pa_nil)) (pe_callB (call_reprD hg hu) (by rfl) B.n_repr (by decide +kernel) (pa_cons (pv 4) pa_nil)) (nomark _)) (pss_one (ps_ret pe_bl)) pss_nil)
  (pss_cons (ps_set (i := 5) scnamr.nd rfl (Or.inl rfl) (pe_callTy (call_dictP rfl) (by rfl) Wt.n_dict (by decide +kernel) (pa_cons (pe_op op_cat (LiI.pe_listItems rfl (pv 2) (by rfl) Wt.n_list (by decide +kernel)) (pe_lst (pa_cons (pe_tup (pa_cons pe_str (pa_cons pe_str pa_nil))) pa_nil))) pa_nil)))
  (pss_cons (ps_set (i := 6) scnamr.nd rfl (Or.inl rfl) (pe_callTy (call_dictP rfl) (by rfl) Wt.n_dict (by decide +kernel) (pa_cons (pe_slice sl_list (LiI.pe_listItems rfl (pv 2) (by rfl) Wt.n_list (by decide +kernel)) (po_some pe_int) po_none) pa_nil)))
  (pss_cons (ps_if (PW.pt (pw_or (pt_cmpR op_isnot_bl (pe_call GG hr3 rfl gG FG.kp bG .nil pass_none (pa_cons (pv 1) (pa_cons (pv 5) pa_nil))) pe_bl (nomark _)) (pw_or1 (PW.pt (pw_and (pt_cmpR op_gt (pe_callB call_lenD (by rfl) B.n_len (by decide +kernel) (pa_cons (pv 2) pa_nil)) pe_int (nomark _)) (pw_and1 (pt_cmpR op_isnot_bl (pe_call GG hr3 rfl gG FG.kp bG .nil pass_none (pa_cons (pv 1) (pa_cons (pv 6) pa_nil))) pe_bl (nomark _)))))))) (pss_one (ps_ret pe_bl)) pss_nil)
  (pss_cons (ps_set (i := 7) scnamr.nd rfl (Or.inl rfl) (pe_lst (pa_cons pe_non (pa_cons pe_int (pa_cons pe_str (pa_cons (pe_lst (pa_cons (pe_tup (pa_cons pe_str (pa_cons pe_str pa_nil))) pa_nil)) (pa_cons (pe_tup (pa_cons (pe_tup (pa_cons pe_str (pa_cons pe_str pa_nil))) pa_nil)) (pa_cons (pe_callTy (call_dictP rfl) (by rfl) Wt.n_dict (by decide +kernel) (pa_cons (pe_op op_cat (pe_lc (own := [("_law_name", 3)]) (g := gName 3) (tt := tYes) rfl scnamr.nd (pi_tup (pv 1)) (blkOk_by (N := NNR) (sc := defScope snamr) (by decide +kernel)) (fun _ _ _ _ _ => pg_name (i := 3) scnamr.nd rfl (Or.inl rfl)) (fun _ _ _ _ _ => pts_nil) (fun _ _ _ _ _ => (pe_tup (pa_cons (pv 3) (pa_cons (pe_op op_add_str (pv 3) pe_str) pa_nil))))) (pe_lst (pa_cons (pe_tup (pa_cons pe_str (pa_cons pe_str pa_nil))) pa_nil))) pa_nil)) pa_nil))))))))
  (pss_cons (ps_if (pt_cmpR (op_neD hu) (pe_lc (own := [("_law_value", 10)]) (g := gName 10) (tt := tTest (tOp (fun x y H Q => ∃ a b, x = .bl a ∧ y = .bl b ∧ Q (.bl (!decide (a = b))) H) (tCall (spNaming K CO) [] L2.E0 (tCons (tVar 1) (tCons (tVar 10) tNil))) (tC (.bl false)))) rfl scnamr.nd (pi_list (pv 7)) (blkOk_by (N := NNR) (sc := defScope snamr) (by decide +kernel)) (fun _ _ _ _ _ => pg_name (i := 10) scnamr.nd rfl (Or.inl rfl)) (fun _ _ _ _ _ => pts_one (pt_cmpR op_isnot_bl (pe_call GG hr3 rfl gG FG.kp bG .nil pass_none (pa_cons (pv 1) (pa_cons (pv 10) pa_nil))) pe_bl (nomark _))) (fun _ _ _ _ _ => pv 10)) (pe_lst pa_nil) (nomark _)) (pss_one (ps_ret pe_bl)) pss_nil)
  (pss_cons (ps_set (i := 8) scnamr.nd rfl (Or.inr rfl) (pe_call GP hr2 rfl gP FP.kp bP .nil L2.pass0 (pa_cons (pv 0) (pa_cons (pe_lst (pa_cons pe_non (pa_cons pe_int (pa_cons pe_str (pa_cons (pe_lst (pa_cons pe_str pa_nil)) (pa_cons (pe_tup (pa_cons pe_str (pa_cons pe_int pa_nil))) (pa_cons (pe_tup (pa_cons pe_str pa_nil)) (pa_cons (pe_tup (pa_cons pe_str pa_nil)) (pa_cons pe_dnewK pa_nil))))))))) pa_nil))))
  (pss_one (ps_ret (pe_and (pe_cmpR op_eq (er (lamS_by (by decide +kernel)) rfl (fun _ _ _ _ _ => rfl) (fun A outer s H E f c' h4 => pe_callS GG (h4.mono (by decide)) rfl gG FG.kp bG (fun σ => passAt (takes_of rfl rfl rfl rfl) σ) (pa_cons (pv 8) (pa_cons pe_dnewK pa_nil)))) pe_str (nomark _)) (pe_one (pe_cmpR op_is_bl (pe_call GG hr3 rfl gG FG.kp bG .nil pass_none (pa_cons (pe_tup (pa_cons pe_str pa_nil)) (pa_cons (pe_disp (pps_cons pe_str pe_str pps_nil) rfl rfl (by decide) (by decide)) pa_nil))) pe_bl (nomark _))))))))))))))))), ?_⟩
  have M0 := Mv.refl hd
  have ofSt : ∀ {l : List Str} {v : V}, v ∈ l.map V.str → ∃ y, y ∈ l ∧ v = V.str y := fun {l v} h => by
    obtain ⟨y, h1, h2⟩ := List.mem_map.mp h
    exact ⟨y, h1, h2.symm⟩
  refine ⟨_, rfl, d, 5, rfl, by decide, by decide, hd, fun r H1 lr R1 => ?_⟩
  have M1 := M0.roll R1
  refine ⟨_, rfl, by omega, by omega, fun D hD => lc_range (lo := 0) (n := Int.toNat ((r : Nat) : Int)) (g := gName 9) (tt := tYes) (te := tCall spPick [] L2.E0 (tCons (tVar 0) (tCons (tLst (tCons (tC (.str "a")) (tCons (tC (.str "b")) (tCons (tC (.str "c")) (tCons (tC (.str "rim")) tNil))))) tNil))) (fun j H' => Mv d H H' ∧ ∃ ts : List Str, ts.length = j ∧ (∀ y ∈ ts, nmOk y) ∧ H' D = some (.lst (ts.map V.str))) ⟨M1.same (sm hD), [], rfl, (fun y h => nomatch h), upd_same⟩ (fun j H' hj pv => ?_) (fun H' pv => ?_)⟩
  · obtain ⟨M, ts, lt, ok, hL⟩ := pv
    refine ⟨rfl, _, rfl, by show 4 ≤ sizeLine; decide, fun L nL => ⟨d, L, (["a", "b", "c", "rim"] : List Str).map V.str, rfl, by decide, by decide, (M.same (sm nL)).dice, upd_same, M.ne nL, fun v H2 hv R => ?_⟩⟩
    obtain ⟨y, hy, rfl⟩ := ofSt hv
    have M2 := ((Mv.refl M.dice).same (sm (o := .lst ((["a", "b", "c", "rim"] : List Str).map V.str)) nL)).roll R
    have neD := M1.ne hD
    refine ⟨_, M2.at (off_at neD.symm hL), ?_, (M.trans M2).set (M1.new hD) neD, ts ++ [y], ?_, fun x hx => ?_, ?_⟩
    · rw [List.length_map]
      have : (5 : Nat) < sizeLine := by decide
      omega
    · rw [List.length_append, lt]
      rfl
    · rcases List.mem_append.mp hx with hx | hx
      · exact ok x hx
      · rw [List.mem_singleton.mp hx]
        exact hy
    · rw [List.map_append]
      exact upd_same
  obtain ⟨M2, ts, lt, ok, hL⟩ := pv
  refine ⟨D, _, rfl, .inl ⟨SqL.of hL, fun tw ntw => fun S nS => ?_⟩⟩
  have M3 := (M2.same (sm (o := .tup (ts.map V.str)) ntw)).same (sm (o := .dK []) nS)
  have nSo : Off d H S = none := (M2.same (sm (o := .tup (ts.map V.str)) ntw)).new nS
  have neS : d ≠ S := (M2.same (sm (o := .tup (ts.map V.str)) ntw)).ne nS
  have netw : tw ≠ d := (M2.ne ntw).symm
  have twS : tw ≠ S := ne_of_none (H := upd H' tw (.tup (ts.map V.str))) upd_same nS
  have l5 : ts.length < 5 := by omega
  have tw3 : (upd (upd H' tw (.tup (ts.map V.str))) S (.dK [])) tw = some (.tup (ts.map V.str)) := (upd_ne twS).trans upd_same
  have S3 : (upd (upd H' tw (.tup (ts.map V.str))) S (.dK [])) S = some (.dK []) := upd_same
  have nw : ∀ y ∈ ts, nameS y = true ∧ y.length ≤ 10 := fun y hy => nmOk_name (ok y hy)
  have dl := dist_len ts
  generalize upd (upd H' tw (HO.tup (List.map V.str ts))) S (HO.dK []) = H3 at M3 tw3 S3 ⊢
  refine ⟨_, rfl, _, rfl, tw, ts, rfl, .inr (SqT.of tw3), by omega, fun m nm => ⟨m, dist ts, rfl, upd_same, by omega, fun ys p pm np => ?_⟩⟩
  have M4 := (M3.same (sm (o := SetXO w m (dist ts)) nm)).same (sm (o := .lst (ys.map V.str)) np)
  have tw4 : (upd (upd H3 m (SetXO w m (dist ts))) p (.lst (ys.map V.str))) tw = some (.tup (ts.map V.str)) := sm np _ _ (sm nm _ _ tw3)
  have S4 : (upd (upd H3 m (SetXO w m (dist ts))) p (.lst (ys.map V.str))) S = some (.dK []) := sm np _ _ (sm nm _ _ S3)
  have nep : p ≠ d := ((M3.same (sm (o := SetXO w m (dist ts)) nm)).ne np).symm
  refine ⟨d, p, ys.map V.str, rfl, M4.dice, SqL.of (off_at nep upd_same), ?_, fun r us H5 pm2 mv hr5 ner => ?_⟩
  · rw [List.length_map, pm.length_eq]
    omega
  obtain ⟨zs, rfl, pz⟩ := unstr pm2
  have pz2 : zs.Perm (dist ts) := pz.trans pm
  have M5 := M4.trans mv
  have tw5 := mv.at (off_at netw tw4)
  have S5 := mv.at (off_at neS.symm S4)
  have rS : r ≠ S := fun z => by
    rw [z, S5] at hr5
    cases hr5
  have lz : zs.length ≤ 4 := by
    rw [pz2.length_eq]
    omega
  refine ⟨r, rfl, ⟨_, SqL.of hr5⟩, for_list (K := K) (a := r) (xs := zs.map V.str) (fun i σ H' => ∃ (t : Option V) (ps : List (Str × Str)), σ = [some (.ref d), some (.ref tw), some (.ref S), t, none, none, none, none, none, none, none] ∧ ps.map (·.1) = zs.take i ∧ (∀ p ∈ ps, vlOk p.2) ∧ H' S = some (.dK (prs ps)) ∧ H' tw = some (.tup (ts.map V.str)) ∧ H' r = some (.lst (zs.map V.str)) ∧ Mv d H H')
    ⟨none, [], rfl, rfl, (fun p hp => nomatch hp), S5, tw5, hr5, M5⟩ (fun i σ H' hi pv => ?_) (fun i x σ H' hx pv => ?_) (fun σ H' pv => ?_)⟩
  · obtain ⟨t, ps, rfl, e1, e2, e3, e4, e5, e6⟩ := pv
    exact SqL.of e5
  · obtain ⟨t, ps, rfl, e1, e2, e3, e4, e5, e6⟩ := pv
    rw [List.getElem?_map] at hx
    obtain ⟨z, hz, rfl⟩ := Option.map_eq_some_iff.mp hx
    refine ⟨_, rfl, by show 5 ≤ sizeLine; decide, fun L nL => ⟨d, L, (["a", "b", "zz", "q", "w"] : List Str).map V.str, rfl, by decide, by decide, (e6.same (sm nL)).dice, upd_same, e6.ne nL, fun v H2 hv R => ?_⟩⟩
    obtain ⟨y, hy, rfl⟩ := ofSt hv
    have M6 := ((Mv.refl e6.dice).same (sm (o := .lst ((["a", "b", "zz", "q", "w"] : List Str).map V.str)) nL)).roll R
    have f3 := M6.at (off_at neS.symm e3)
    have f4 := M6.at (off_at netw e4)
    have f5 := M6.at (off_at ner e5)
    have zlt : i < zs.length := (List.getElem?_eq_some_iff.mp hz).1
    have znew : z ∉ ps.map (·.1) := by
      rw [e1]
      have nd : zs.Nodup := pz2.nodup_iff.mpr (dist_nodup ts)
      have nd2 : (zs.take (i + 1)).Nodup := List.Sublist.nodup (List.take_sublist _ _) nd
      rw [List.take_add_one, hz, Option.toList_some] at nd2
      exact fun hm => (List.nodup_append.mp nd2).2.2 z hm z (List.mem_singleton.mpr rfl) rfl
    have lp : ps.length = i := by
      have := congrArg List.length e1
      rw [List.length_map, List.length_take] at this
      omega
    refine ⟨_, rfl, _, rfl, S, _, rfl, DPut.k (k := Sum.inr z) f3 ?_, ?_⟩
    · rw [prs_len]
      exact Nat.lt_of_lt_of_le (by omega : ps.length < 5) (by decide)
    · rw [put_new znew]
      refine ⟨_, ps ++ [(z, y)], rfl, ?_, fun q hq => ?_, upd_same, (upd_ne twS).trans f4, (upd_ne rS).trans f5, (e6.trans M6).set nSo neS⟩
      · rw [List.map_append, e1, List.take_add_one, hz]
        rfl
      · rcases List.mem_append.mp hq with hq | hq
        · exact e2 q hq
        · rw [List.mem_singleton.mp hq]
          exact hy
  obtain ⟨t, ps, rfl, e1, e2, e3, e4, e5, e6⟩ := pv
  rw [List.length_map, List.take_length] at e1
  have lp : ps.length ≤ 4 := by
    have := congrArg List.length e1
    rw [List.length_map] at this
    omega
  have pp : (ps.map (·.1)).Perm (dist ts) := by
    rw [e1]
    exact pz2
  have lps : ps.length = (dist ts).length := by
    have := pp.length_eq
    rwa [List.length_map] at this
  have dl2 := dist_len (ps.map (·.2))
  rw [List.length_map] at dl2
  have shB : ∀ b : Bool, (PyData.bool b).showable = true ∧ (PyData.bool b).depth ≤ 60 ∧ (PyData.bool b).shown.length ≤ sizeLine := fun b => ⟨rfl, Nat.zero_le _, Nat.le_trans (by cases b <;> decide +kernel : (PyData.bool b).shown.length ≤ 10) (by decide)⟩
  refine ⟨_, rfl, S, prs ps, rfl, e3, fun p1 n1 => ⟨p1, ps.map (·.2), rfl, .inl (SqL.of (by rw [upd_same, prs_snd])), by rw [List.length_map]; omega, fun m1 k1 => ⟨m1, dist (ps.map (·.2)), rfl, upd_same, by omega, _, rfl, S, prs ps, rfl, sm k1 _ _ (sm n1 _ _ e3), rfl, ?_⟩⟩⟩
  have M7 := (e6.same (sm (o := .lst ((prs ps).map (·.2))) n1)).same (sm (o := SetXO w m1 (dist (ps.map (·.2)))) k1)
  have S7 : (upd (upd H' p1 (.lst ((prs ps).map (·.2)))) m1 (SetXO w m1 (dist (ps.map (·.2))))) S = some (.dK (prs ps)) := sm k1 _ _ (sm n1 _ _ e3)
  have tw7 : (upd (upd H' p1 (.lst ((prs ps).map (·.2)))) m1 (SetXO w m1 (dist (ps.map (·.2))))) tw = some (.tup (ts.map V.str)) := sm k1 _ _ (sm n1 _ _ e4)
  have eN : namB ts (prs ps) = decide (V.int ((dist (ps.map (·.2))).length : Nat) = V.int ((prs ps).length : Nat)) := by
    rw [namB_some pp e2, prs_len]
    exact decide_eq_decide.mpr ⟨fun z => by rw [z], fun z => Int.ofNat.inj (V.int.inj z)⟩
  have good : ∀ {Hk : Hp} {qs : List (Str × Str)}, (∀ p ∈ qs, p.2.length ≤ 20) → ∀ x ∈ (prs qs).map (·.2), GoodN K Hk x := fun {Hk qs} h x hx => by
    rw [prs_snd] at hx
    obtain ⟨y, hy, rfl⟩ := ofSt hx
    obtain ⟨p, hp, rfl⟩ := List.mem_map.mp hy
    exact good_str (h p hp)
  have goodM : ∀ {Hk : Hp} {qs : List (Str × Str)}, (∀ p ∈ qs, p.2.length ≤ 20) → ∀ x ∈ (mergeK [] (prs qs)).map (·.2), GoodN K Hk x := fun {Hk qs} h x hx => by
    obtain ⟨q, hq, rfl⟩ := merge_vals qs x hx
    exact good_str (h q hq)
  have v20 : ∀ p ∈ ps, p.2.length ≤ 20 := fun p hp => by
    have := (vlOk_name (e2 p hp)).2
    omega
  have kl5 : (prs ps).length < 500 := by
    rw [prs_len]
    omega
  have l500 : ts.length < 500 := by omega
  refine ⟨_, rfl, _, rfl, .ref tw, .ref S, true, "dict", rfl, names_of (SqT.of tw7) nw l500, ⟨.base (.dK S7), by decide⟩, (fun z => nomatch z), fun _ => ⟨tw, ts, rfl, SqT.of tw7, l500, fun z => absurd rfl z, fun _ => ⟨S, prs ps, rfl, S7, kl5, good v20, fun H8 s8 => ?_⟩⟩⟩
  rw [eN]
  refine ⟨_, _, rfl, .bl _, (shB _).1, (shB _).2.1, (shB _).2.2, _, rfl, _, _, rfl, .bl _, (shB _).1, (shB _).2.1, (shB _).2.2, rfl, _, rfl, ?_⟩
  refine ite2 (fun hc => absurd hc (by simp)) (fun _ => ?_)
  have M8 := M7.same s8
  have S8 := s8 _ _ S7
  have tw8 := s8 _ _ tw7
  refine ⟨_, rfl, S, prs ps, rfl, S8, fun H9 L1 as keep nL1 nas nin hL1 pr => ⟨by show 2 ≤ sizeLine; decide, fun t1 nt1 => ⟨by show 1 ≤ sizeLine; decide, fun Lb nLb => ⟨L1, Lb, _, _, rfl, rfl, sm nLb _ _ (sm nt1 _ _ hL1), upd_same, ?_, fun L3 nL3 => ⟨L3, as ++ [t1], prs (ps ++ [oth]), rfl, SqL.of ?_, ?_, fun D1 nD1 => ?_⟩⟩⟩⟩⟩
  · have := Paired.length pr
    rw [prs_len] at this
    rw [List.length_map]
    exact Nat.le_trans (by show as.length + 1 ≤ 5; omega) (by decide : (5 : Nat) ≤ sizeLine)
  · rw [upd_same, List.map_append]
    rfl
  · rw [prs_app]
    refine pairedSnoc (_root_.L2.Paired.mapP pr fun a b h => SqT.of (sm nL3 _ _ (sm nLb _ _ (sm nt1 _ _ h)))) (SqT.of (sm nL3 _ _ (sm nLb _ _ upd_same)))
  have s10 : Same H8 (upd (upd (upd (upd H9 t1 (.tup [.str "other", .str "v"])) Lb (.lst [.ref t1])) L3 (.lst (as.map V.ref ++ [.ref t1]))) D1 (.dK (mergeK [] (prs (ps ++ [oth]))))) := ((((show Same H8 H9 from keep).trans (sm nt1)).trans (sm nLb)).trans (sm nL3)).trans (sm nD1)
  have D10 : (upd (upd (upd (upd H9 t1 (.tup [.str "other", .str "v"])) Lb (.lst [.ref t1])) L3 (.lst (as.map V.ref ++ [.ref t1]))) D1 (.dK (mergeK [] (prs (ps ++ [oth]))))) D1 = some (.dK (mergeK [] (prs (ps ++ [oth])))) := upd_same
  generalize upd (upd (upd (upd H9 t1 (HO.tup [V.str "other", V.str "v"])) Lb (HO.lst [V.ref t1])) L3 (HO.lst (as.map V.ref ++ [V.ref t1]))) D1 (HO.dK (mergeK [] (prs (ps ++ [oth])))) = H10 at s10 D10 ⊢
  have M10 := M8.same s10
  have S10 := s10 _ _ S8
  have tw10 := s10 _ _ tw8
  refine ⟨_, rfl, S, prs ps, rfl, S10, fun H11 L4 bs keep2 nL4 nbs nin2 hL4 pr2 => ⟨_, rfl, L4, _, rfl, SqL.of hL4, fun L5 nL5 => ⟨L5, bs.drop 1, prs (ps.drop 1), rfl, SqL.of ?_, ?_, fun D2 nD2 => ?_⟩⟩⟩
  · rw [upd_same, cut1, List.map_drop]
  · have h1 := pairedDrop pr2
    have h2 : (prs ps).drop 1 = prs (ps.drop 1) := by
      unfold prs
      rw [List.map_drop]
    rw [h2] at h1
    exact _root_.L2.Paired.mapP h1 fun a b h => SqT.of (sm nL5 _ _ h)
  have s12 : Same H10 (upd (upd H11 L5 (.lst (cutV (bs.map V.ref) (some 1) none))) D2 (.dK (mergeK [] (prs (ps.drop 1))))) := ((show Same H10 H11 from keep2).trans (sm nL5)).trans (sm nD2)
  have E12 : (upd (upd H11 L5 (.lst (cutV (bs.map V.ref) (some 1) none))) D2 (.dK (mergeK [] (prs (ps.drop 1))))) D2 = some (.dK (mergeK [] (prs (ps.drop 1)))) := upd_same
  generalize upd (upd H11 L5 (HO.lst (cutV (bs.map V.ref) (some 1) none))) D2 (HO.dK (mergeK [] (prs (ps.drop 1)))) = H12 at s12 E12 ⊢
  have M12 := M10.same s12
  have S12 := s12 _ _ S10
  have tw12 := s12 _ _ tw10
  have D12 := s12 _ _ D10
  have ndz : (ps.map (·.1)).Nodup := pp.nodup_iff.mpr (dist_nodup ts)
  have oth_new : (oth.1 : Str) ∉ ps.map (·.1) := fun z => by
    have h1 := ok _ ((dist_mem ts _).mp (pp.mem_iff.mp z))
    revert h1
    unfold nmOk
    decide +kernel
  have lm : (mergeK [] (prs (ps ++ [oth]))).length = ps.length + 1 := by
    rw [merge_len, List.map_append]
    show (dist (ps.map (·.1) ++ [oth.1])).length = _
    rw [dist_snoc oth_new, dist_len_nodup ndz, List.length_map]
  have ll : (mergeK [] (prs (ps.drop 1))).length = ps.length - 1 := by
    rw [merge_len, List.map_drop, dist_len_nodup (List.Sublist.nodup (List.drop_sublist _ _) ndz), List.length_drop, List.length_map]
  have n1 : namB ts (mergeK [] (prs (ps ++ [oth]))) = false := namB_len (by rw [lm]; omega)
  have v20m : ∀ p ∈ ps ++ [oth], p.2.length ≤ 20 := fun p hp => by
    rcases List.mem_append.mp hp with hp | hp
    · exact v20 p hp
    · rw [List.mem_singleton.mp hp]
      decide
  have v20l : ∀ p ∈ ps.drop 1, p.2.length ≤ 20 := fun p hp => v20 p (List.mem_of_mem_drop hp)
  have lm5 : (mergeK [] (prs (ps ++ [oth]))).length < 500 := by omega
  have ll5 : (mergeK [] (prs (ps.drop 1))).length < 500 := by omega
  refine ⟨_, rfl, _, rfl, .ref tw, .ref D1, true, "dict", rfl, names_of (SqT.of tw12) nw l500, ⟨.base (.dK D12), by decide⟩, (fun z => nomatch z), fun _ => ⟨tw, ts, rfl, SqT.of tw12, l500, fun z => absurd rfl z, fun _ => ⟨D1, _, rfl, D12, lm5, goodM v20m, fun H13 s13 => ?_⟩⟩⟩
  rw [n1]
  refine ⟨_, _, rfl, rfl, _, rfl, ?_⟩
  refine ite2 (fun hc => absurd hc (by simp)) (fun _ => ?_)
  refine ⟨_, rfl, S, prs ps, rfl, s13 _ _ S12, _, _, rfl, rfl, _, rfl, ?_⟩
  show (if _ = true then _ else _)
  apply if_contH (Hk := H13) (R := fun Hk => Same H12 Hk)
  rotate_left
  · exact s13
  · intro hc cont
    have l0 : 0 < ps.length := by
      have := of_decide_eq_true hc
      rw [prs_len] at this
      omega
    have n2 : namB ts (mergeK [] (prs (ps.drop 1))) = false := namB_len (by rw [ll]; omega)
    have tw13 := s13 _ _ tw12
    have E13 := s13 _ _ E12
    refine ⟨_, rfl, _, rfl, .ref tw, .ref D2, true, "dict", rfl, names_of (SqT.of tw13) nw l500, ⟨.base (.dK E13), by decide⟩, (fun z => nomatch z), fun _ => ⟨tw, ts, rfl, SqT.of tw13, l500, fun z => absurd rfl z, fun _ => ⟨D2, _, rfl, E13, ll5, goodM v20l, fun H14 s14 => ?_⟩⟩⟩
    rw [n2]
    exact ⟨_, _, rfl, rfl, _, rfl, cont H14 (s13.trans s14)⟩
  intro H14 s14
  refine ite2 (fun hc => absurd hc (by simp)) (fun _ => ?_)
  have M14 := M12.same s14
  have tw14 := s14 _ _ tw12
  refine ⟨by show 2 ≤ sizeLine; decide, fun a1 na1 => ⟨by show 1 ≤ sizeLine; decide, fun a2 na2 => ⟨by show 2 ≤ sizeLine; decide, fun a3 na3 => ⟨by show 1 ≤ sizeLine; decide, fun a4 na4 => ?_⟩⟩⟩⟩
  have s15 : Same H14 (upd (upd (upd (upd H14 a1 (.tup [.str "a", .str "b"])) a2 (.lst [.ref a1])) a3 (.tup [.str "a", .str "b"])) a4 (.tup [.ref a3])) := (((sm na1).trans (sm na2)).trans (sm na3)).trans (sm na4)
  have b2 : (upd (upd (upd (upd H14 a1 (.tup [.str "a", .str "b"])) a2 (.lst [.ref a1])) a3 (.tup [.str "a", .str "b"])) a4 (.tup [.ref a3])) a2 = some (.lst [.ref a1]) := sm na4 _ _ (sm na3 _ _ upd_same)
  have b4 : (upd (upd (upd (upd H14 a1 (.tup [.str "a", .str "b"])) a2 (.lst [.ref a1])) a3 (.tup [.str "a", .str "b"])) a4 (.tup [.ref a3])) a4 = some (.tup [.ref a3]) := upd_same
  generalize upd (upd (upd (upd H14 a1 (HO.tup [V.str "a", V.str "b"])) a2 (HO.lst [V.ref a1])) a3 (HO.tup [V.str "a", V.str "b"])) a4 (HO.tup [V.ref a3]) = H15 at s15 b2 b4 ⊢
  have tw15 := s15 _ _ tw14
  refine ⟨_, rfl, tw, rfl, ⟨_, SqT.of tw15⟩, fun D5 hD5 => lc_tup (xs := ts.map V.str) (g := gName 3) (tt := tYes) (te := tTup (tCons (tVar 3) (tCons (tOp (fun x y H Q => ∃ i j, x = .str i ∧ y = .str j ∧ i.length + j.length ≤ sizeLine ∧ Q (.str (i ++ j)) H) (tVar 3) (tC (.str "!"))) tNil))) (fun i H' => Same H15 H' ∧ ∃ as : List Addr, H' D5 = some (.lst (as.map V.ref)) ∧ Paired (fun p kv => H' p = some (.tup [kV kv.1, kv.2])) as (prs ((ts.take i).map exP))) ⟨sm hD5, [], upd_same, .nil⟩ (fun i H' _ e => SqT.of (e.1 _ _ tw15)) (fun i x H' hxi e => ?_) (fun H' e => ?_)⟩
  · obtain ⟨sx, as, hL, pr⟩ := e
    rw [List.getElem?_map] at hxi
    obtain ⟨y, hy, rfl⟩ := Option.map_eq_some_iff.mp hxi
    have ly := (nw y (List.mem_of_getElem? hy)).2
    have lx : y.length + ("!" : Str).length ≤ sizeLine := Nat.le_trans (Nat.add_le_add ly (by decide : ("!" : Str).length ≤ 10)) (by decide)
    refine ⟨rfl, _, rfl, _, rfl, _, _, rfl, rfl, lx, by show 2 ≤ sizeLine; decide, fun a na => ⟨_, sm na _ _ hL, ?_, fun b o eo => ?_, as ++ [a], ?_, ?_⟩⟩
    · rw [List.length_map]
      have h1 := Paired.length pr
      rw [prs_len, List.length_map, List.length_take] at h1
      exact Nat.lt_of_lt_of_le (by omega : as.length < 5) (by decide)
    · exact (upd_ne (ne_of_none eo hD5)).trans (sm na _ _ (sx _ _ eo))
    · rw [List.map_append]
      exact upd_same
    · have neA : ∀ {b : Addr} {o : HO}, H' b = some o → b ≠ D5 → (upd (upd H' a (.tup [.str y, .str (y ++ "!")])) D5 (.lst (as.map V.ref ++ [.ref a]))) b = some o := fun h n => (upd_ne n).trans (sm na _ _ h)
      have nD : ∀ {b : Addr} {l : List V}, H' b = some (.tup l) → b ≠ D5 := fun {b l} h z => by
        rw [z, hL] at h
        cases h
      rw [List.take_add_one, hy, Option.toList_some, List.map_append, prs_app]
      have na5 : a ≠ D5 := (ne_of_none hL na).symm
      exact pairedSnoc (_root_.L2.Paired.mapP pr fun b q h => neA h (nD h)) ((upd_ne na5).trans upd_same)
  obtain ⟨sx, as, hL, pr⟩ := e
  rw [List.length_map, List.take_length] at pr
  have s16 := s15.trans sx
  refine ⟨by show 2 ≤ sizeLine; decide, fun t6 nt6 => ⟨by show 1 ≤ sizeLine; decide, fun L6 nL6 => ⟨D5, L6, _, _, rfl, rfl, sm nL6 _ _ (sm nt6 _ _ hL), upd_same, ?_, fun L7 nL7 => ⟨L7, as ++ [t6], prs (ts.map exP ++ [exT]), rfl, SqL.of ?_, ?_, fun D8 nD8 => ⟨by show 6 ≤ sizeLine; decide, fun L9 nL9 => ?_⟩⟩⟩⟩⟩
  · have := Paired.length pr
    rw [prs_len, List.length_map] at this
    rw [List.length_map]
    exact Nat.le_trans (by show as.length + 1 ≤ 6; omega) (by decide : (6 : Nat) ≤ sizeLine)
  · rw [upd_same, List.map_append]
    rfl
  · rw [prs_app]
    refine pairedSnoc (_root_.L2.Paired.mapP pr fun a b h => SqT.of (sm nL7 _ _ (sm nL6 _ _ (sm nt6 _ _ h)))) (SqT.of (sm nL7 _ _ (sm nL6 _ _ upd_same)))
  have s17 : Same H15 (upd (upd (upd (upd (upd H' t6 (.tup [.str "x", .str "y"])) L6 (.lst [.ref t6])) L7 (.lst (as.map V.ref ++ [.ref t6]))) D8 (.dK (mergeK [] (prs (ts.map exP ++ [exT]))))) L9 (.lst [.non, .int 0, .str "a", .ref a2, .ref a4, .ref D8])) := ((((sx.trans (sm nt6)).trans (sm nL6)).trans (sm nL7)).trans (sm nD8)).trans (sm nL9)
  have d17 : (upd (upd (upd (upd (upd H' t6 (.tup [.str "x", .str "y"])) L6 (.lst [.ref t6])) L7 (.lst (as.map V.ref ++ [.ref t6]))) D8 (.dK (mergeK [] (prs (ts.map exP ++ [exT]))))) L9 (.lst [.non, .int 0, .str "a", .ref a2, .ref a4, .ref D8])) D8 = some (.dK (mergeK [] (prs (ts.map exP ++ [exT])))) := sm nL9 _ _ upd_same
  have l17 : (upd (upd (upd (upd (upd H' t6 (.tup [.str "x", .str "y"])) L6 (.lst [.ref t6])) L7 (.lst (as.map V.ref ++ [.ref t6]))) D8 (.dK (mergeK [] (prs (ts.map exP ++ [exT]))))) L9 (.lst [.non, .int 0, .str "a", .ref a2, .ref a4, .ref D8])) L9 = some (.lst [.non, .int 0, .str "a", .ref a2, .ref a4, .ref D8]) := upd_same
  generalize upd (upd (upd (upd (upd H' t6 (HO.tup [V.str "x", V.str "y"])) L6 (HO.lst [V.ref t6])) L7 (HO.lst (as.map V.ref ++ [V.ref t6]))) D8 (HO.dK (mergeK [] (prs (ts.map exP ++ [exT]))))) L9 (HO.lst [V.non, V.int 0, V.str "a", V.ref a2, V.ref a4, V.ref D8]) = H17 at s17 d17 l17 ⊢
  have M17 := M14.same (s15.trans s17)
  have tw17 := s17 _ _ tw15
  have lx : (mergeK [] (prs (ts.map exP ++ [exT]))).length = (dist ts).length + 1 := by
    have e : (ts.map exP ++ [exT]).map (·.1) = ts ++ [exT.1] := by
      rw [List.map_append, List.map_map]
      show ts.map (fun y => y) ++ _ = _
      rw [List.map_id']
      rfl
    rw [merge_len, e]
    refine dist_snoc fun z => ?_
    have h1 := ok _ z
    revert h1
    unfold nmOk
    decide +kernel
  have ox : ∀ x ∈ [V.non, .int 0, .str "a", .ref a2, .ref a4, .ref D8], OddN K H17 ts x := oddNs (s17 _ _ b2) (s17 _ _ b4) d17 (by omega) (goodM fun p hp => by
    rcases List.mem_append.mp hp with hp | hp
    · obtain ⟨y, hy, rfl⟩ := List.mem_map.mp hp
      have := (nw y hy).2
      show (y.cps ++ ("!" : Str).cps).size ≤ 20
      rw [Array.size_append]
      have h1 : ("!" : Str).cps.size = 1 := by decide
      have h2 : y.cps.size ≤ 10 := this
      omega
    · rw [List.mem_singleton.mp hp]
      decide) (namB_len (by rw [lx]; omega))
  refine ⟨_, rfl, L9, rfl, ⟨_, SqL.of l17⟩, fun D9 hD9 => lc_list (xs := [V.non, .int 0, .str "a", .ref a2, .ref a4, .ref D8]) (fun i H' => Same H17 H' ∧ H' D9 = some (.lst [])) ⟨sm hD9, upd_same⟩ (fun i H' _ e => SqL.of (e.1 _ _ l17)) (fun i x H' hx e => ?_) (fun H' e => ?_)⟩
  · obtain ⟨sy, hE⟩ := e
    obtain ⟨n, k, hdict⟩ := (ox x (List.mem_of_getElem? hx)).same sy
    have twx := sy _ _ tw17
    refine ⟨rfl, _, rfl, _, rfl, .ref tw, x, true, n, rfl, names_of (SqT.of twx) nw l500, k, (fun z => nomatch z), fun _ => ⟨tw, ts, rfl, SqT.of twx, l500, fun ne H2 s2 => ?_, fun en => ?_⟩⟩
    · exact ⟨_, _, rfl, rfl, _, rfl, sy.trans s2, s2 _ _ hE⟩
    · obtain ⟨d3, kvs, rfl, h2, h3, h4, h5⟩ := hdict en
      refine ⟨d3, kvs, rfl, h2, h3, h4, fun H2 s2 => ?_⟩
      rw [h5]
      exact ⟨_, _, rfl, rfl, _, rfl, sy.trans s2, s2 _ _ hE⟩
  obtain ⟨sy, hE⟩ := e
  refine ⟨by show 0 ≤ sizeLine; decide, fun D10 hD10 => ⟨.list [], .list [], Dp.lst (SqL.of (sm hD10 _ _ hE)) .nil, Dp.lst (SqL.of upd_same) .nil, by decide +kernel, by decide +kernel, _, rfl, ?_⟩⟩
  refine ite2 (fun hc => absurd hc (by decide +kernel)) (fun _ => ?_)
  have M18 := M17.same (sy.trans (sm (o := .lst []) hD10))
  generalize upd H' D10 (HO.lst []) = H18 at M18 ⊢
  refine ⟨_, rfl, by show 1 ≤ sizeLine; decide, fun b1 nb1 => ⟨by show 2 ≤ sizeLine; decide, fun b2 nb2 => ⟨by show 1 ≤ sizeLine; decide, fun b3 nb3 => ⟨by show 1 ≤ sizeLine; decide, fun b4 nb4 => fun b5 nb5 => ⟨by show 8 ≤ sizeLine; decide, fun Lc nLc => ?_⟩⟩⟩⟩⟩
  have N1 := M18.same (sm (o := .lst [.str "a"]) nb1)
  have N2 := N1.same (sm (o := .tup [.str "a", .int 1]) nb2)
  have N3 := N2.same (sm (o := .tup [.str "A"]) nb3)
  have N4 := N3.same (sm (o := .tup [.str ""]) nb4)
  have N5 := N4.same (sm (o := .dK []) nb5)
  have N6 := N5.same (sm (o := .lst [.non, .int 0, .str "a", .ref b1, .ref b2, .ref b3, .ref b4, .ref b5]) nLc)
  have bad := badNames (K := K) (off_at (M18.ne nb1).symm (sm (o := .lst [.non, .int 0, .str "a", .ref b1, .ref b2, .ref b3, .ref b4, .ref b5]) nLc _ _ (sm nb5 _ _ (sm nb4 _ _ (sm nb3 _ _ (sm nb2 _ _ upd_same)))))) (off_at (N1.ne nb2).symm (sm nLc _ _ (sm nb5 _ _ (sm nb4 _ _ (sm nb3 _ _ upd_same))))) (off_at (N2.ne nb3).symm (sm nLc _ _ (sm nb5 _ _ (sm nb4 _ _ upd_same)))) (off_at (N3.ne nb4).symm (sm nLc _ _ (sm nb5 _ _ upd_same))) (off_at (N4.ne nb5).symm (sm nLc _ _ upd_same))
  have neL := N5.ne nLc
  have hLc : (upd (upd (upd (upd (upd (upd H18 b1 (.lst [.str "a"])) b2 (.tup [.str "a", .int 1])) b3 (.tup [.str "A"])) b4 (.tup [.str ""])) b5 (.dK [])) Lc (.lst [.non, .int 0, .str "a", .ref b1, .ref b2, .ref b3, .ref b4, .ref b5])) Lc = some (.lst [.non, .int 0, .str "a", .ref b1, .ref b2, .ref b3, .ref b4, .ref b5]) := upd_same
  generalize upd (upd (upd (upd (upd (upd H18 b1 (HO.lst [V.str "a"])) b2 (HO.tup [V.str "a", V.int 1])) b3 (HO.tup [V.str "A"])) b4 (HO.tup [V.str ""])) b5 (HO.dK [])) Lc (HO.lst [V.non, V.int 0, V.str "a", V.ref b1, V.ref b2, V.ref b3, V.ref b4, V.ref b5]) = H19 at N6 bad hLc ⊢
  refine ⟨d, Lc, [V.non, .int 0, .str "a", .ref b1, .ref b2, .ref b3, .ref b4, .ref b5], rfl, by show 0 < 8; decide, by show 8 < 1000000; decide, N6.dice, hLc, neL, fun v H20 hv R20 => ?_⟩
  have bv : NamesV K (Off d H19) v false := bad v hv
  have M20 : Mt T d H H20 := (Mt.refl hd ht).move (N6.roll R20)
  have bv20 : NamesV K (Off d H20) v false := names_ext (fun b o e _ => off_rolled R20 b o e) bv
  refine ⟨M20.tabs, fun U e t => ?_⟩
  have M21 := M20.lam e t
  refine ⟨_, rfl, fun p np => ?_⟩
  have M22 := M21.same (sm (o := .dK []) np)
  have bvU : NamesV K (upd U p (.dK [])) v false := names_ext (ExtN.of (sm np)) (names_ext e (names_ext off_incl bv20))
  refine ⟨v, .ref p, false, "dict", rfl, bvU, ⟨.base (.dK upd_same), by decide⟩, fun _ H2 s2 => ?_, fun z => nomatch z⟩
  refine Or.inr ⟨rfl, rfl, _, rfl, ?_⟩
  refine ite2 (fun _ => ?_) (fun hc => absurd rfl hc)
  have M23 := M22.same s2
  refine ⟨by show 1 ≤ sizeLine; decide, fun t9 nt9 => fun d9 nd9 => ⟨upd_same, [(.inr "a", .str "B")], rfl, by decide, ?_⟩⟩
  have n3 : namB ["a"] (mergeK [] [(.inr "a", .str "B")]) = false := by decide +kernel
  rw [upd_upd]
  have t10 : (upd (upd H2 t9 (.tup [.str "a"])) d9 (.dK (mergeK [] [(.inr "a", .str "B")]))) t9 = some (.tup [.str "a"]) := sm nd9 _ _ upd_same
  have d10 : (upd (upd H2 t9 (.tup [.str "a"])) d9 (.dK (mergeK [] [(.inr "a", .str "B")]))) d9 = some (.dK (mergeK [] [(.inr "a", .str "B")])) := upd_same
  have s9 : Same H2 (upd (upd H2 t9 (.tup [.str "a"])) d9 (.dK (mergeK [] [(.inr "a", .str "B")]))) := (sm (o := .tup [.str "a"]) nt9).trans (sm nd9)
  generalize upd (upd H2 t9 (HO.tup [V.str "a"])) d9 (HO.dK (mergeK [] [(.inr "a", V.str "B")])) = H21 at t10 d10 s9 ⊢
  have ga : ∀ y ∈ (["a"] : List Str), nameS y = true ∧ y.length ≤ 10 := fun y hy => by
    rw [List.mem_singleton.mp hy]
    exact ⟨by decide +kernel, by decide⟩
  have gb : ∀ x ∈ (mergeK [] [((.inr "a" : Key), V.str "B")]).map (·.2), GoodN K H21 x := fun x hx => by
    have e : (mergeK [] [((.inr "a" : Key), V.str "B")]).map (·.2) = [V.str "B"] := rfl
    rw [e] at hx
    rw [List.mem_singleton.mp hx]
    exact good_str (by decide)
  refine ⟨.ref t9, .ref d9, true, "dict", rfl, names_of (ts := ["a"]) (SqT.of t10) ga (by decide), ⟨.base (.dK d10), by decide⟩, (fun z => nomatch z), fun _ => ⟨t9, ["a"], rfl, SqT.of t10, by decide, fun z => absurd rfl z, fun _ => ⟨d9, _, rfl, d10, by decide, gb, fun H3 s3 => ?_⟩⟩⟩
  rw [n3]
  exact ⟨_, _, rfl, rfl, q _ ((M23.same s9).same s3)⟩
end
end VW
/-! VTab -/
set_option maxRecDepth 100000
set_option maxHeartbeats 2000000
/-! the law's own call, where defs hold tables of code objects and no repr is under way -/
namespace VK
open PySem PySem.Spec PyProof.Rows L2 LamX
section
variable {P : Program} {w : World} {K : PySem.W.Frag} {mg mb : Str → Option Value} {k : Nat} {fa a : Addr} {fd : FuncData} {x : Str} {sp : Sp} {s₁ : Shared} {vs : List Value} {ns : List Int} {ts : List Addr}
/-- the script, and the tables, all empty -/
def startH (K : PySem.W.Frag) (a : Addr) (vs : List Value) (ns : List Int) (ts : List Addr) : Hp := fun b => if b ∈ ts then some (.tbl #[]) else scriptH K a vs ns b
theorem law_callTG (KX : K.In s₁.heap) (n1 : s₁.heap.Ns mainGlobals mg) (n2 : s₁.heap.Ns builtinsNs mb) (n3 : ∀ x : Str, x ≠ "__name__" → mb x = bootBuiltins x) (n4 : s₁.heap.NoLimit) (n5 : s₁.gens = #[])
    (t1 : ∀ p ∈ ts, s₁.heap.get? p = some { cls := .none, data := .fields #[] }) (t2 : ∀ p ∈ ts, K.lookup p = none)
    (bt : ∃ (bm : Addr) (ob : Obj), mg "__builtins__" = some (.ref bm) ∧ bm ≠ builtinsNs ∧ s₁.heap.get? bm = some ob ∧ ob.cls = .type "module" ∧ ob.dict = some builtinsNs ∧ ob.data = .plain)
    (la : s₁.heap.get? a = some { cls := .type "list", data := .seq vs.toArray }) (li : IntsAre vs ns) (ll : ns.length ≤ sizeLine) (hr : Room k callerA)
    (F : ∀ base : Heap, K.In base → base.Ns mainGlobals mg → (∀ p ∈ ts, base.BuiltinsAt mg p ∧ mainGlobals ≠ p) → FnG P w K mg base CX0 k fa fd [x] sp) (hbind : ∀ (s : Shared) (u : Value), BindsTo s fd ⟨[u], []⟩ [(x, u)])
    (hsp : ∀ H : Hp, (∀ p ∈ ts, H p = some (.tbl #[])) → SqL K H a (ns.map V.int) → sp [.ref a] H (fun v _ => v = .bl true) fun _ _ _ => False)
    (tab : ∀ p ∈ ts, isCodeTable s₁.heap p) :
    codeAny (model P w) callerA (.call (.ref fa) ⟨[.ref a], []⟩) (fun r s' => r = .ok (.ret (.bool true)) ∧ OldK s₁.heap s'.heap ∧ s'.os = s₁.os ∧ AllBare s'.gens) s₁ := by
  have rv := vals_ints li
  have anot : a ∉ ts := fun m => by
    have q := t1 a m
    rw [la] at q
    exact Data.noConfusion (congrArg Obj.data (Option.some.inj q))
  obtain ⟨H, eH⟩ : ∃ H, H = startH K a vs ns ts := ⟨_, rfl⟩
  have inT : ∀ p ∈ ts, H p = some (.tbl #[]) := fun p m => by
    rw [eH]
    exact if_pos m
  have outT : ∀ {b : Addr}, b ∉ ts → H b = scriptH K a vs ns b := fun {b} m => by
    rw [eH]
    exact if_neg m
  have some_ : ∀ {b : Addr} {o : HO}, H b = some o → (b ∈ ts ∧ o = .tbl #[]) ∨ (b ∉ ts ∧ b = a ∧ K.lookup a = none ∧ o = .frz { cls := .type "list", data := .seq vs.toArray } (.lst (ns.map V.int))) := fun {b o} e => by
    by_cases m : b ∈ ts
    · rw [inT b m] at e
      exact .inl ⟨m, (Option.some.inj e).symm⟩
    · rw [outT m] at e
      exact .inr ⟨m, scriptH_some e⟩
  have hS : SqL K H a (ns.map V.int) := by
    cases q : K.lookup a with
    | none =>
      refine .inl (.inr ⟨{ cls := .type "list", data := .seq vs.toArray }, ?_⟩)
      rw [outT anot]
      exact if_pos ⟨rfl, by rw [q]; rfl⟩
    | some o =>
      have e := KX a o q
      rw [la] at e
      cases e
      exact .inr ⟨_, vs.toArray, _, q, rfl, rfl, rfl, by rw [List.size_toArray, li.length]; exact ll, by simpa using rv⟩
  have hok : HOk P w H s₁.heap := fun b o e => by
    rcases some_ e with ⟨m, rfl⟩ | ⟨_, rfl, _, rfl⟩
    · exact t1 b m
    · exact ⟨la, by rw [List.length_map]; exact ll, vs, _, rv, la⟩
  have free : ∀ {b : Addr} {o : Obj}, s₁.heap.get? b = some o → (∀ us n, o.data ≠ .seq us n) → o.data ≠ .fields #[] → H b = none := fun {b o} e h1 h2 => by
    cases q : H b with
    | none => rfl
    | some u =>
      rcases some_ q with ⟨m, _⟩ | ⟨_, rfl, _, _⟩
      · rw [t1 b m] at e
        cases e
        exact absurd rfl h2
      · rw [la] at e
        cases e
        exact absurd rfl (h1 _ _)
  have dfree : ∀ {b : Addr} {o : Obj} {es : Array DictEntry} {ep : Nat}, s₁.heap.get? b = some o → o.data = .dict es ep → H b = none := fun {b o es ep} e d => free e (fun us n z => by rw [d] at z; cases z) fun z => by rw [d] at z; cases z
  have keepNs : ∀ {b : Addr} {m : Str → Option Value}, s₁.heap.Ns b m → (hidT s₁.heap H).Ns b m := fun {b m} ⟨o, es, ep, e, d, r⟩ => ⟨o, es, ep, hidT_get e (dfree e d), d, r⟩
  have kb : K.In (hidT s₁.heap H) := fun b o e => hidT_get (KX b o e) (by
    cases q : H b with
    | none => rfl
    | some u =>
      rcases some_ q with ⟨m, _⟩ | ⟨_, rfl, z, _⟩
      · rw [t2 b m] at e
        cases e
      · rw [z] at e
        cases e)
  have TB : ∀ p ∈ ts, (hidT s₁.heap H).BuiltinsAt mg p ∧ mainGlobals ≠ p := fun p m => by
    have tp := t1 p m
    refine ⟨?_, fun z => ?_⟩
    · obtain ⟨bm, ob, b1, b2, b3, b4, b5, b6⟩ := bt
      refine ⟨bm, ob, b1, b2, fun z => ?_, fun z => ?_, hidT_get b3 (free b3 (fun us n z => by rw [b6] at z; cases z) fun z => by rw [b6] at z; cases z), b4, b5, b6⟩
      · obtain ⟨o, es, ep, e, d, _⟩ := n1
        rw [z, e] at b3
        cases b3
        rw [d] at b6
        cases b6
      · rw [z, tp] at b3
        cases b3
        cases b6
    · obtain ⟨o, es, ep, e, d, _⟩ := n1
      rw [z, tp] at e
      cases e
      cases d
  have e0 : Env0 P w K mg (hidT s₁.heap H) callerA [] s₁ H :=
    { frames := rfl, mod := ⟨kb, keepNs n1, ⟨mb, keepNs n2, n3⟩, by obtain ⟨mc, h1, h2⟩ := n4; exact ⟨mc, keepNs h1, h2⟩⟩, bs := fun b o e => of_hidT e, bsz := Nat.le_of_eq (hidT_size _ _), funs := trivial, frf := fun b z => (by cases z), hok := hok, bare := .of_eq n5 }
  refine codeAny_mono ((F _ kb (keepNs n1) TB).go callerA [] s₁ H ⟨[.ref a], []⟩ [.ref a] [.ref a] _ _ rfl hr e0 (hbind s₁ (.ref a)) (.cons rfl .nil) (hsp H inT hS)) fun r s' h => ?_
  match r, h with
  | .error e, h => exact h.elim
  | .ok (.ret u), h =>
    obtain ⟨v, H', os, bare, un, hok', rel, q⟩ := h
    have q' : v = .bl true := q
    subst q'
    have eu : u = Value.bool true := rel
    have stay : ∀ b o, b ∉ ts → s₁.heap.get? b = some o → s'.heap.get? b = some o := fun b o nb e => by
      cases z : H b with
      | none => exact un.keep b o e z (fun m => by cases m) (fun m => by cases m)
      | some y =>
        rcases some_ z with ⟨m, _⟩ | ⟨_, rfl, _, rfl⟩
        · exact absurd m nb
        · have same := (hok' _ _ (un.frzs _ _ _ z)).1
          rw [la] at e
          cases e
          exact same
    have grown : ∀ p ∈ ts, ∃ more : Array Value, s'.heap.get? p = some { cls := .none, data := .fields more } := fun p m => by
      obtain ⟨more, z⟩ := un.tbls p #[] (inT p m)
      exact ⟨_, hok' p _ z⟩
    refine ⟨by rw [eu], ⟨fun b o e => ?_, fun b o e => ?_⟩, os, bare⟩
    · by_cases m : b ∈ ts
      · obtain ⟨more, hm⟩ := grown b m
        rw [t1 b m] at e
        cases e
        exact .inr (.inl ⟨tab b m, rfl, #[], more, rfl, by rw [Array.empty_append]; exact hm⟩)
      · exact .inl (stay b o m e)
    · by_cases m : b ∈ ts
      · obtain ⟨more, hm⟩ := grown b m
        exact ⟨_, hm⟩
      · exact ⟨o, stay b o m e⟩
/-- what is told of the law at the head's heap -/
def LawT (l : PySem.W.OpenLaw) (w : World) (K : PySem.W.Frag) (k n : Nat) (x : Str) (mg : Str → Option Value) (fa : Addr) (ts : List Addr) : Prop :=
  ∃ (fd : FuncData) (cs : List (Addr × Addr)) (sp : Sp), (∀ p ∈ cs, p.2 ∈ ts) ∧ (∀ p ∈ ts, K.lookup p = none) ∧ (∀ p ∈ ts, ∃ c, (c, p) ∈ cs) ∧ (∀ p ∈ cs, PySem.W.codeHdIn K p.1 p.2 = true) ∧ (∀ (s : Shared) (u : Value), BindsTo s fd ⟨[u], []⟩ [(x, u)]) ∧
    (∀ (H : Hp) (a : Addr) (ns : List Int), ns.length ≤ n → (∀ p ∈ ts, H p = some (.tbl #[])) → SqL K H a (ns.map V.int) → sp [.ref a] H (fun v _ => v = .bl true) fun _ _ _ => False) ∧
    ∀ base : Heap, K.In base → base.Ns mainGlobals mg → (∀ p ∈ cs, TabB base mg p.1 p.2) → FnG l.prog w K mg base CX0 k fa fd [x] sp
theorem walk_ofTG {l : PySem.W.OpenLaw} {n : Nat} {q : Program} {loose : List Str} {XP : (Str → Option Value) → Heap → Prop} {YP : World → Heap → Prop} {d : DefRec} {K : Params → PySem.W.Frag}
    (hn : l.most = some n) (hn2 : n ≤ sizeLine) (hdf : d.params.defaults = []) (hr : Room k callerA) (hY : ∀ (w : World) (h : Heap), YP w h → (K w.params).In h) (hT : ∀ (w : World) (h : Heap), YP w h → ∀ p ∈ ts, h.get? p = some { cls := .none, data := .fields #[] })
    (F : ∀ (w : World) (mg : Str → Option Value) (fa : Addr) (h : Heap), (K w.params).In h → h.Ns mainGlobals mg → mg d.name = some (.ref fa) → XP mg h → LawT l w (K w.params) k n x mg fa ts) :
    PySem.W.WalkO q loose XP YP l.row.toRowW d [] (fun f vs => PySem.call f vs) := by
  refine Att.attach_callB hn hdf fun w s₀ s₁ mg mb fa o pm cd doc a vs ns G Y _ _ _ hmg hobj hints hlen _ hg => ?_
  have KX := hY w _ Y
  obtain ⟨fd, cs, sp, c1, c2, c3, c4, c5, c6, c7⟩ := F w mg fa _ KX G.T.g hmg G.X
  refine law_callTG KX G.T.g G.T.b G.T.builtins G.T.nolimit hg (hT w _ Y) c2 G.T.bmain hobj hints (Nat.le_trans hlen hn2) hr (fun base kb nb tb => c7 base kb nb fun p m => ?_) c5 (fun H h1 h2 => c6 H a ns hlen h1 h2) fun p m => ?_
  · obtain ⟨e1, e2⟩ := tb p.2 (c1 p m)
    exact ⟨PySem.W.codeHd_of_K kb (c4 p m), e1, e2⟩
  · obtain ⟨c, hc⟩ := c3 p m
    exact ((PySem.W.codeHd_of_K KX (c4 _ hc)).tab (hT w _ Y p m)).isCodeTable
end
end VK
/-! K00AB -/
set_option maxRecDepth 100000
set_option maxHeartbeats 1000000
/-! the law -/
namespace VW
open PySem PySem.Spec PyProof.Rows L2 VK LamX
abbrev slaw : Stmt := topS 43
abbrev NLW : List Str := ["_law_script", "_law_spot", "_law_dice_here", "_law_turn", "_law_told", "_law_index"]
theorem sclaw : FnScope NLW ["_law_script"] (defScope slaw) := ⟨rfl, rfl, rfl, by decide +kernel, rfl, by decide +kernel, by decide +kernel⟩
def spLaw (K : PySem.W.Frag) (T : List (Addr × Str)) : Sp := fun vs H Q _ => ∃ (s : Addr) (ns : List Int), vs = [.ref s] ∧ SqL K H s (ns.map V.int) ∧ ns.length ≤ 1000000 ∧ Tabs T H ∧ ∀ H', Q (.bl true) H'
section
variable {P : Program} {w : World} {K : PySem.W.Frag} {mg : Str → Option Value} {base : Heap} {CN fN CO : Addr}
theorem ok_law {T : List (Addr × Str)} {f fD fw fn fx fs fr fi fc fm fa ff fd' fh : Addr} {fd fdD fdw fdn fdx fds fdr fdi fdc fdm fda fdf fdd fdh : FuncData} (F : Fun K "law" "law" slaw f fd)
    (FD : Fun K "_law_dice" "_law_dice" sdice fD fdD) (GD : FnOk P w K mg base L2.CX0 1 fD fdD ["_law_script", "_law_spot"] (spDice K)) (gD : mg "_law_dice" = some (.ref fD)) (bD : L2.Binds K fdD ["_law_script", "_law_spot"] [])
    (kw : PySem.W.keepIn K (.ref fw) = true) (Gw : FnG P w K mg base L2.CX0 7 fw fdw ["_law_dice_here"] (spRefused T)) (gw : mg "_law_words_right" = some (.ref fw)) (bw : L2.Binds K fdw ["_law_dice_here"] [])
    (kn : PySem.W.keepIn K (.ref fn) = true) (Gn : FnG P w K mg base L2.CX0 7 fn fdn ["_law_dice_here"] (spRefused T)) (gn : mg "_law_namings_right" = some (.ref fn)) (bn : L2.Binds K fdn ["_law_dice_here"] [])
    (kx : PySem.W.keepIn K (.ref fx) = true) (Gx : FnG P w K mg base L2.CX0 7 fx fdx ["_law_dice_here"] (spRefused T)) (gx : mg "_law_fractions_right" = some (.ref fx)) (bx : L2.Binds K fdx ["_law_dice_here"] [])
    (ks : PySem.W.keepIn K (.ref fs) = true) (Gs : FnG P w K mg base L2.CX0 7 fs fds ["_law_dice_here"] (spRefused T)) (gs : mg "_law_sums_right" = some (.ref fs)) (bs : L2.Binds K fds ["_law_dice_here"] [])
    (kr : PySem.W.keepIn K (.ref fr) = true) (Gr : FnG P w K mg base L2.CX0 7 fr fdr ["_law_dice_here"] (spRefused T)) (gr : mg "_law_sums_refused" = some (.ref fr)) (br : L2.Binds K fdr ["_law_dice_here"] [])
    (Fi : Fun K "is_integer" "is_integer" sinteger fi fdi) (Gi : FnOk P w K mg base L2.CX0 2 fi fdi ["value"] (spTest K intV)) (gi : mg "is_integer" = some (.ref fi)) (bi : L2.Binds K fdi ["value"] [])
    (Fc : Fun K "is_count" "is_count" scount fc fdc) (Gc : FnOk P w K mg base L2.CX0 3 fc fdc ["value"] (spTest K countV)) (gc : mg "is_count" = some (.ref fc)) (bc : L2.Binds K fdc ["value"] [])
    (Fm : Fun K "is_name" "is_name" sname fm fdm) (Gm : FnOk P w K mg base L2.CX0 1 fm fdm ["value"] (spName K)) (gm : mg "is_name" = some (.ref fm)) (bm : L2.Binds K fdm ["value"] [])
    (Fa : Fun K "are_names" "are_names" snames fa fda) (Ga : FnOk P w K mg base L2.CX0 2 fa fda ["value"] (spNames K)) (ga : mg "are_names" = some (.ref fa)) (ba : L2.Binds K fda ["value"] [])
    (Ff : Fun K "fraction" "fraction" sfrac ff fdf) (Gf : FnOk P w K mg base (L2.CX P w) 3 ff fdf ["top", "bottom"] (spFrac CN K)) (gf : mg "fraction" = some (.ref ff)) (bf : L2.Binds K fdf ["top", "bottom"] [])
    (Fd : Fun K "divided" "divided" sdiv fd' fdd) (Gd : FnOk P w K mg base (L2.CX P w) 4 fd' fdd ["one", "other"] (spDiv CN CO K)) (gd : mg "divided" = some (.ref fd')) (bd : L2.Binds K fdd ["one", "other"] [])
    (Fh : Fun K "nth_name" "nth_name" snthn fh fdh) (Gh : FnOk P w K mg base (L2.CX P w) 4 fh fdh ["index"] (spNth K CN)) (gh : mg "nth_name" = some (.ref fh)) (bh : L2.Binds K fdh ["index"] [])
    (B : Blt mg) (Wt : Wd mg) : FnG P w K mg base L2.CX0 8 f fd ["_law_script"] (spLaw K T) := by
  refine VK.Fun.okG F sclaw (fun vs H Q E h => ?_) (fun cdv A outer s H vs Q E hg hr h => ?_)
  · obtain ⟨s, ns, rfl, _⟩ := h
    rfl
  obtain ⟨sc, ns, rfl, hs, hl, ht, q⟩ := h
  have hr1 : Room 1 _ := hr.mono (by decide)
  have hr2 : Room 2 _ := hr.mono (by decide)
  have hr3 : Room 3 _ := hr.mono (by decide)
  have hr4 : Room 4 _ := hr.mono (by decide)
  have hu : (A.deeper (PyProof.Rows.envOfC "law" (defScope slaw) s.heap.objs.size f cdv)).units + 64 < cLine := hr.units
  obtain ⟨tML, ML⟩ := Wt.ML
  obtain ⟨tMF, MF⟩ := Wt.MF
  refine ⟨_, PSs.nox (pss_cons (ps_for PassesOwn.never rfl (pi_range1 (by rfl) B.n_range (pa_cons (pe_callB (call_max2 rfl) (by rfl) B.n_max (by decide +kernel) (pa_cons pe_int (pa_cons (pe_callB (call_min2 rfl) (by rfl) B.n_min (by decide +kernel) (pa_cons pe_int (pa_cons (pe_callB call_len_seq (by rfl) B.n_len (by decide +kernel) (pa_cons (pv 0) pa_nil)) pa_nil))) pa_nil))) pa_nil)) (pg_name (i := 1) sclaw.nd rfl (Or.inl rfl)) (pss_cons (ps_set (i := 2) sclaw.nd rfl (Or.inl rfl) (pe_call GD hr1 rfl gD FD.kp bD .nil L2.pass0 (pa_cons (pv 0) (pa_cons (pv 1) pa_nil))))
  (pss_one (ps_for PassesOwn.never rfl (pi_range1 (by rfl) B.n_range (pa_cons pe_int pa_nil)) (pg_name (i := 3) sclaw.nd rfl (Or.inl rfl)) (pss_cons (ps_if (PW.pt (pw_or (pt_not (pt_val (pe_callG Gw hg hr rfl gw kw bw L2.pass0 (pa_cons (pv 2) pa_nil)))) (pw_or (pt_not (pt_val (pe_callG Gn hg hr rfl gn kn bn L2.pass0 (pa_cons (pv 2) pa_nil)))) (pw_or1 (pt_not (pt_val (pe_callG Gx hg hr rfl gx kx bx L2.pass0 (pa_cons (pv 2) pa_nil)))))))) (pss_one (ps_ret pe_bl)) pss_nil)
  (pss_one (ps_if (PW.pt (pw_or (pt_not (pt_val (pe_callG Gs hg hr rfl gs ks bs L2.pass0 (pa_cons (pv 2) pa_nil)))) (pw_or1 (pt_not (pt_val (pe_callG Gr hg hr rfl gr kr br L2.pass0 (pa_cons (pv 2) pa_nil))))))) (pss_one (ps_ret pe_bl)) pss_nil)))))))
  (pss_cons (ps_set (i := 4) sclaw.nd rfl (Or.inl rfl) (pe_lst (pa_cons (pe_call Gc hr3 rfl gc Fc.kp bc .nil L2.pass0 (pa_cons pe_int pa_nil)) (pa_cons (pe_call Gm hr1 rfl gm Fm.kp bm .nil L2.pass0 (pa_cons pe_str pa_nil)) (pa_cons (pe_call Gm hr1 rfl gm Fm.kp bm .nil L2.pass0 (pa_cons pe_str pa_nil)) (pa_cons (pe_call Ga hr2 rfl ga Fa.kp ba .nil L2.pass0 (pa_cons (pe_tup pa_nil) pa_nil)) (pa_cons (pe_call Ga hr2 rfl ga Fa.kp ba .nil L2.pass0 (pa_cons (pe_tup (pa_cons pe_str (pa_cons pe_str pa_nil))) pa_nil)) (pa_cons (pe_glob (v := .int 8) rfl ML ⟨_, rfl⟩) pa_nil))))))))
  (pss_cons (ps_set (i := 4) sclaw.nd rfl (Or.inl rfl) (pe_op op_cat (pv 4) (pe_lst (pa_cons (pe_glob (v := .int 60) rfl MF ⟨_, rfl⟩) (pa_cons (pe_call Gf hr3 rfl gf Ff.kp bf .nil pass_none (pa_cons pe_int (pa_cons (pe_un un_neg pe_int) pa_nil))) (pa_cons (pe_call Gf hr3 rfl gf Ff.kp bf .nil pass_none (pa_cons pe_int (pa_cons pe_int pa_nil))) (pa_cons (pe_call Gd hr4 rfl gd Fd.kp bd .nil pass_none (pa_cons (pe_tup (pa_cons pe_int (pa_cons pe_int pa_nil))) (pa_cons (pe_tup (pa_cons (pe_un un_neg pe_int) (pa_cons pe_int pa_nil))) pa_nil))) (pa_cons (pe_call Gi hr2 rfl gi Fi.kp bi .nil L2.pass0 (pa_cons (pe_op op_sub pe_int (pe_op op_pow pe_int pe_int)) pa_nil)) pa_nil))))))))
  (pss_cons (ps_if (pt_cmpR (op_neD hu) (pv 4) (pe_lst (pa_cons pe_bl (pa_cons pe_bl (pa_cons pe_bl (pa_cons pe_bl (pa_cons pe_bl (pa_cons pe_int (pa_cons pe_int (pa_cons (pe_tup (pa_cons (pe_un un_neg pe_int) (pa_cons pe_int pa_nil))) (pa_cons (pe_tup (pa_cons pe_int (pa_cons pe_int pa_nil))) (pa_cons (pe_tup (pa_cons (pe_un un_neg pe_int) (pa_cons pe_int pa_nil))) (pa_cons pe_bl pa_nil)))))))))))) (nomark _)) (pss_one (ps_ret pe_bl)) pss_nil)
  (pss_one (ps_ret (pe_cmpR (op_eqD hu) (pe_lc (own := [("_law_index", 5)]) (g := gName 5) (tt := tYes) rfl sclaw.nd (pi_tup (pe_tup (pa_cons pe_int (pa_cons pe_int (pa_cons pe_int (pa_cons pe_int (pa_cons pe_int pa_nil))))))) (blkOk_by (N := NLW) (sc := defScope slaw) (by decide +kernel)) (fun _ _ _ _ _ => pg_name (i := 5) sclaw.nd rfl (Or.inl rfl)) (fun _ _ _ _ _ => pts_nil) (fun _ _ _ _ _ => (pe_call Gh hr4 rfl gh Fh.kp bh .nil pass_none (pa_cons (pv 5) pa_nil)))) (pe_lst (pa_cons pe_str (pa_cons pe_str (pa_cons pe_str (pa_cons pe_str (pa_cons pe_str pa_nil)))))) (nomark _)))))))), ?_⟩
  have offnew : ∀ {H0 : Hp} {p : Addr} {o : HO}, H0 p = none → Same H0 (Off p (upd H0 p o)) := fun {H0 p o} np b u e => off_at (ne_of_none e np) (sm np _ _ e)
  refine ⟨_, rfl, sc, _, rfl, .inl hs, _, _, rfl, _, _, rfl, _, rfl, ?_, ?_, for_range (fun _ σ H' => ∃ x y z t u, σ = [some (.ref sc), x, y, z, t, u] ∧ SqL K H' sc (ns.map V.int) ∧ Tabs T H') ⟨_, _, _, _, _, rfl, hs, ht⟩ (fun i σ H0 hi pv => ?_) (fun σ H' pv => ?_)⟩
  · split <;> split <;> omega
  · split <;> split <;> omega
  · obtain ⟨x, y, z, t, u, rfl, hs0, ht0⟩ := pv
    refine ⟨_, rfl, _, rfl, sc, ns, i, ?_, hs0, fun d a b c nd => ?_⟩
    · rw [Int.zero_add]
      rfl
    have hd1 : Dice (upd H0 d (.lst [.int a, .int b, .int c])) d := ⟨a, b, c, upd_same⟩
    have ht1 : Tabs T (upd H0 d (.lst [.int a, .int b, .int c])) := ht0.ext (sm nd)
    have hs1 : SqL K (Off d (upd H0 d (.lst [.int a, .int b, .int c]))) sc (ns.map V.int) := (offnew nd).seq hs0
    generalize upd H0 d (HO.lst [V.int a, V.int b, V.int c]) = H1 at hd1 ht1 hs1 ⊢
    refine ⟨2, rfl, by decide, by decide, for_range (n := 2) (fun _ σ H' => ∃ x z t u, σ = [some (.ref sc), x, some (.ref d), z, t, u] ∧ Mt T d H1 H') ⟨_, _, _, _, rfl, Mt.refl hd1 ht1⟩ (fun j σ H2 hj pv => ?_) (fun σ H2 pv => ?_)⟩
    · obtain ⟨x', z', t', u', rfl, M⟩ := pv
      refine ⟨_, rfl, d, rfl, M.dice, M.tabs, fun H3 m3 => ⟨_, rfl, ?_⟩⟩
      refine ite2 (fun hc => absurd hc (by decide)) (fun _ => ?_)
      refine ⟨_, rfl, d, rfl, m3.dice, m3.tabs, fun H4 m4 => ⟨_, rfl, ?_⟩⟩
      refine ite2 (fun hc => absurd hc (by decide)) (fun _ => ?_)
      refine ⟨_, rfl, d, rfl, m4.dice, m4.tabs, fun H5 m5 => ⟨_, rfl, ?_⟩⟩
      refine ite2 (fun hc => absurd hc (by decide)) (fun _ => ?_)
      refine ⟨_, rfl, d, rfl, m5.dice, m5.tabs, fun H6 m6 => ⟨_, rfl, ?_⟩⟩
      refine ite2 (fun hc => absurd hc (by decide)) (fun _ => ?_)
      refine ⟨_, rfl, d, rfl, m6.dice, m6.tabs, fun H7 m7 => ⟨_, rfl, ?_⟩⟩
      refine ite2 (fun hc => absurd hc (by decide)) (fun _ => ?_)
      exact ⟨_, _, _, _, rfl, ((((M.trans m3).trans m4).trans m5).trans m6).trans m7⟩
    · obtain ⟨x', z', t', u', rfl, M⟩ := pv
      exact ⟨_, _, _, _, _, rfl, off_in.seq (extN_seq M.off hs1), M.tabs⟩
  obtain ⟨x, y, z, t, u, rfl, hs0, ht0⟩ := pv
  have kst : ∀ {Hk : Hp} {y : Str}, Kd K Hk (.str y) "str" := ⟨.base (.str _), by decide⟩
  have sl : ∀ {y : Str}, y.length ≤ 20 → ∀ z, V.str y = .str z → z.length ≤ sizeLine := fun h z e => by
    cases e
    exact Nat.le_trans h (by decide)
  refine ⟨.int 0, "int", rfl, kd_int, .str "abcdefgh", "str", rfl, kst, sl (by decide), fun Ha sa => ⟨.str "abcdefghi", "str", rfl, kst, sl (by decide), fun Hb sb => ⟨by show 0 ≤ sizeLine; decide, fun t0 n0 => ⟨.ref t0, true, rfl, names_of (ts := []) (SqT.of upd_same) (fun y h => nomatch h) (by decide), fun Hc sc1 => ⟨by show 2 ≤ sizeLine; decide, fun t1 n1 =>
    ⟨.ref t1, true, rfl, names_of (ts := ["a", "a"]) (SqT.of upd_same) (fun y h => ?_) (by decide), fun Hd sd => ⟨by show 6 ≤ sizeLine; decide, fun L1 nL1 => ?_⟩⟩⟩⟩⟩⟩⟩
  · simp only [List.mem_cons, List.not_mem_nil, or_false, or_self] at h
    rw [h]
    exact ⟨by decide +kernel, by decide⟩
  have hL1 : (upd Hd L1 (.lst [.bl (countV (.int 0)), .bl (nameV (.str "abcdefgh")), .bl (nameV (.str "abcdefghi")), .bl true, .bl true, .int 8])) L1 = some (.lst [.bl (countV (.int 0)), .bl (nameV (.str "abcdefgh")), .bl (nameV (.str "abcdefghi")), .bl true, .bl true, .int 8]) := upd_same
  generalize upd Hd L1 (HO.lst [V.bl (countV (V.int 0)), V.bl (nameV (V.str "abcdefgh")), V.bl (nameV (V.str "abcdefghi")), V.bl true, V.bl true, V.int 8]) = H1 at hL1 ⊢
  have p60 : CPow 10 60 := ⟨by decide, by decide, by decide⟩
  refine ⟨_, rfl, _, rfl, .int 6, .int (-4), "int", "int", rfl, kd_int, kd_int, (fun z => absurd z (by decide)), (fun _ z => ?_), fun t b e1 e2 _ _ _ p1 m1 => ?_⟩
  · rcases z with z | z
    · exact absurd z (by decide)
    · exact absurd (V.int.inj z) (by decide)
  cases e1
  cases e2
  refine ⟨.int 0, .int 9, "int", "int", rfl, kd_int, kd_int, (fun z => absurd z (by decide)), (fun _ z => ?_), fun t b e1 e2 _ _ _ p2 m2 => ?_⟩
  · rcases z with z | z
    · exact absurd z (by decide)
    · exact absurd (V.int.inj z) (by decide)
  cases e1
  cases e2
  have fr : ∀ {Hk : Hp} {p : Addr} {i j : Int}, Hk p = some (.tup [.int i, .int j]) → 1 ≤ j → Nat.gcd i.natAbs j.natAbs = 1 → FracV K Hk (.ref p) true := fun {Hk p i j} h h1 h2 => ⟨"tuple", ⟨tyX_tup (SqT.of h), by decide⟩, .inr ⟨rfl, p, _, rfl, SqT.of h, .inr ⟨_, _, "int", "int", rfl, kd_int, kd_int, by
    show true = (decide (j ≥ 1) && decide (Nat.gcd i.natAbs j.natAbs = 1))
    rw [decide_eq_true h1, decide_eq_true h2]
    rfl⟩⟩⟩
  refine ⟨by show 2 ≤ sizeLine; decide, fun u1 k1 => ⟨_, rfl, by show 2 ≤ sizeLine; decide, fun u2 k2 => ⟨.ref u1, .ref u2, true, true, rfl, fr (sm k2 _ _ upd_same) (by decide) (by decide), fr upd_same (by decide) (by decide), (fun z => nomatch z), (fun _ z => nomatch z), fun _ _ => ⟨1, 2, -3, 4, ⟨u1, u2, rfl, rfl, SqT.of (sm k2 _ _ upd_same), SqT.of upd_same, ?_, ?_, ?_, ?_, by decide, by decide⟩, (fun z => absurd z (by decide)), fun _ p3 m3 => ?_⟩⟩⟩⟩
  · exact Nat.lt_of_lt_of_le (by decide : (1 : Int).natAbs < 2 ^ 1) (Nat.pow_le_pow_right (by decide) (by decide))
  · exact Nat.lt_of_lt_of_le (by decide : (2 : Int).natAbs < 2 ^ 2) (Nat.pow_le_pow_right (by decide) (by decide))
  · exact Nat.lt_of_lt_of_le (by decide : (-3 : Int).natAbs < 2 ^ 2) (Nat.pow_le_pow_right (by decide) (by decide))
  · exact Nat.lt_of_lt_of_le (by decide : (4 : Int).natAbs < 2 ^ 3) (Nat.pow_le_pow_right (by decide) (by decide))
  refine ⟨_, _, rfl, rfl, p60, _, _, rfl, rfl, _, "int", rfl, kd_int, by show 5 ≤ sizeLine; decide, fun L2 nL2 => ?_⟩
  have S0 : ∀ {b : Addr} {o : HO}, H1 b = some o → (upd (upd (upd (upd (upd (upd H1 p1 (.tup (lowT 6 (-4)))) p2 (.tup (lowT 0 9))) u1 (.tup [.int 1, .int 2])) u2 (.tup [.int (-3), .int 4])) p3 (.tup (lowT (1 * 4) (2 * -3)))) L2 (.lst [.int 60, .ref p1, .ref p2, .ref p3, .bl (intV (.int (1 - (10 : Int) ^ (60 : Int).toNat)))])) b = some o := fun h => sm nL2 _ _ (sm m3 _ _ (sm k2 _ _ (sm k1 _ _ (sm m2 _ _ (sm m1 _ _ h)))))
  have hL1' := S0 hL1
  have hp1 : (upd (upd (upd (upd (upd (upd H1 p1 (.tup (lowT 6 (-4)))) p2 (.tup (lowT 0 9))) u1 (.tup [.int 1, .int 2])) u2 (.tup [.int (-3), .int 4])) p3 (.tup (lowT (1 * 4) (2 * -3)))) L2 (.lst [.int 60, .ref p1, .ref p2, .ref p3, .bl (intV (.int (1 - (10 : Int) ^ (60 : Int).toNat)))])) p1 = some (.tup (lowT 6 (-4))) := sm nL2 _ _ (sm m3 _ _ (sm k2 _ _ (sm k1 _ _ (sm m2 _ _ upd_same))))
  have hp2 : (upd (upd (upd (upd (upd (upd H1 p1 (.tup (lowT 6 (-4)))) p2 (.tup (lowT 0 9))) u1 (.tup [.int 1, .int 2])) u2 (.tup [.int (-3), .int 4])) p3 (.tup (lowT (1 * 4) (2 * -3)))) L2 (.lst [.int 60, .ref p1, .ref p2, .ref p3, .bl (intV (.int (1 - (10 : Int) ^ (60 : Int).toNat)))])) p2 = some (.tup (lowT 0 9)) := sm nL2 _ _ (sm m3 _ _ (sm k2 _ _ (sm k1 _ _ upd_same)))
  have hp3 : (upd (upd (upd (upd (upd (upd H1 p1 (.tup (lowT 6 (-4)))) p2 (.tup (lowT 0 9))) u1 (.tup [.int 1, .int 2])) u2 (.tup [.int (-3), .int 4])) p3 (.tup (lowT (1 * 4) (2 * -3)))) L2 (.lst [.int 60, .ref p1, .ref p2, .ref p3, .bl (intV (.int (1 - (10 : Int) ^ (60 : Int).toNat)))])) p3 = some (.tup (lowT (1 * 4) (2 * -3))) := sm nL2 _ _ upd_same
  refine ⟨L1, L2, _, _, rfl, rfl, hL1', upd_same, by show 6 + 5 ≤ sizeLine; decide, fun L3 nL3 => ?_⟩
  have g1 := sm (o := .lst [.bl (countV (.int 0)), .bl (nameV (.str "abcdefgh")), .bl (nameV (.str "abcdefghi")), .bl true, .bl true, .int 8, .int 60, .ref p1, .ref p2, .ref p3, .bl (intV (.int (1 - (10 : Int) ^ (60 : Int).toNat)))]) nL3 _ _ hp1
  have g2 := sm (o := .lst [.bl (countV (.int 0)), .bl (nameV (.str "abcdefgh")), .bl (nameV (.str "abcdefghi")), .bl true, .bl true, .int 8, .int 60, .ref p1, .ref p2, .ref p3, .bl (intV (.int (1 - (10 : Int) ^ (60 : Int).toNat)))]) nL3 _ _ hp2
  have g3 := sm (o := .lst [.bl (countV (.int 0)), .bl (nameV (.str "abcdefgh")), .bl (nameV (.str "abcdefghi")), .bl true, .bl true, .int 8, .int 60, .ref p1, .ref p2, .ref p3, .bl (intV (.int (1 - (10 : Int) ^ (60 : Int).toNat)))]) nL3 _ _ hp3
  refine ⟨_, rfl, _, rfl, by show 2 ≤ sizeLine; decide, fun v1 a1 => ⟨by show 2 ≤ sizeLine; decide, fun v2 a2 => ⟨_, rfl, by show 2 ≤ sizeLine; decide, fun v3 a3 => ⟨by show 11 ≤ sizeLine; decide, fun L4 n4 => ⟨_, _, Dp.lst (SqL.of (sm n4 _ _ (sm a3 _ _ (sm a2 _ _ (sm a1 _ _ upd_same))))) (.cons (.bl _) (.cons (.bl _) (.cons (.bl _) (.cons (.bl _) (.cons (.bl _) (.cons (.int _) (.cons (.int _) (.cons (.tup (SqT.of (sm n4 _ _ (sm a3 _ _ (sm a2 _ _ (sm a1 _ _ g1))))) (.cons (.int _) (.cons (.int _) .nil)))
    (.cons (.tup (SqT.of (sm n4 _ _ (sm a3 _ _ (sm a2 _ _ (sm a1 _ _ g2))))) (.cons (.int _) (.cons (.int _) .nil))) (.cons (.tup (SqT.of (sm n4 _ _ (sm a3 _ _ (sm a2 _ _ (sm a1 _ _ g3))))) (.cons (.int _) (.cons (.int _) .nil))) (.cons (.bl _) .nil))))))))))),
    Dp.lst (SqL.of upd_same) (.cons (.bl _) (.cons (.bl _) (.cons (.bl _) (.cons (.bl _) (.cons (.bl _) (.cons (.int _) (.cons (.int _) (.cons (.tup (SqT.of (sm n4 _ _ (sm a3 _ _ (sm a2 _ _ upd_same)))) (.cons (.int _) (.cons (.int _) .nil))) (.cons (.tup (SqT.of (sm n4 _ _ (sm a3 _ _ upd_same))) (.cons (.int _) (.cons (.int _) .nil))) (.cons (.tup (SqT.of (sm n4 _ _ upd_same)) (.cons (.int _) (.cons (.int _) .nil))) (.cons (.bl _) .nil))))))))))), by decide +kernel, by decide +kernel, _, rfl, ?_⟩⟩⟩⟩⟩
  refine ite2 (fun hc => absurd hc (by decide +kernel)) (fun _ => ?_)
  have okI : ∀ j ∈ ([0, 25, 26, 53, 701] : List Int), nthOk (.int j) = true := by decide +kernel
  refine ⟨by show 5 ≤ sizeLine; decide, fun tt ntt => ⟨tt, rfl, ⟨_, SqT.of upd_same⟩, fun D hD => lc_tup (xs := ([0, 25, 26, 53, 701] : List Int).map V.int) (g := gName 5) (tt := tYes) (te := tCall (spNth K CN) [] _root_.L2.E0 (tCons (tVar 5) tNil)) (fun i H' => H' tt = some (.tup (([0, 25, 26, 53, 701] : List Int).map V.int)) ∧ H' D = some (.lst ((([0, 25, 26, 53, 701] : List Int).take i).map fun j => V.str (nthS j)))) ⟨sm hD _ _ upd_same, upd_same⟩ (fun i H' _ e => SqT.of e.1) (fun i x H' hxi e => ?_) (fun H' e => ?_)⟩⟩
  · obtain ⟨h1, h2⟩ := e
    rw [List.getElem?_map] at hxi
    obtain ⟨j, hj, rfl⟩ := Option.map_eq_some_iff.mp hxi
    have ok := okI j (List.mem_of_getElem? hj)
    refine ⟨rfl, _, rfl, .int j, "int", rfl, kd_int, fun i' e' _ => ?_, fun no => by rw [ok] at no; cases no⟩
    cases e'
    refine ⟨_, h2, ?_, (upd_ne fun z => ?_).trans h1, ?_⟩
    · rw [List.length_map]
      exact Nat.lt_of_le_of_lt (List.length_take_le' i _) (by decide)
    · rw [z, h2] at h1
      cases h1
    · rw [List.take_add_one, hj, Option.toList_some, List.map_append]
      exact upd_same
  · obtain ⟨h1, h2⟩ := e
    refine ⟨by show 5 ≤ sizeLine; decide, fun L5 n5 => ⟨.list [.str (nthS 0), .str (nthS 25), .str (nthS 26), .str (nthS 53), .str (nthS 701)], .list [.str "a", .str "z", .str "aa", .str "bb", .str "zz"], Dp.lst (SqL.of (sm n5 _ _ h2)) (.cons (.str _) (.cons (.str _) (.cons (.str _) (.cons (.str _) (.cons (.str _) .nil))))), Dp.lst (SqL.of upd_same) (.cons (.str _) (.cons (.str _) (.cons (.str _) (.cons (.str _) (.cons (.str _) .nil))))), by decide +kernel, by decide +kernel, ?_⟩⟩
    rw [show PyData.eqv (.list [.str (nthS 0), .str (nthS 25), .str (nthS 26), .str (nthS 53), .str (nthS 701)]) (.list [.str "a", .str "z", .str "aa", .str "bb", .str "zz"]) = true from by decide +kernel]
    exact q _
end
end VW
/-! K00AC -/
set_option maxRecDepth 100000
set_option maxHeartbeats 4000000
/-! what the top has left, asked of the written part by tests -/
namespace VW
open PySem PySem.Spec L2 VK LamX
def noneR (o : Option (Option Value)) : Bool := match o with
  | some none => true
  | _ => false
def isB (o : Option (Option Value)) (n : String) : Bool := match o with
  | some (some (.builtin m)) => m == n
  | _ => false
def isT (o : Option Value) (n : String) : Bool := match o with
  | some (.type m) => m == n
  | _ => false
def isI (o : Option (Option Value)) (n : Int) : Bool := match o with
  | some (some (.int m _)) => m == n
  | _ => false
def isS (o : Option (Option Value)) (n : Str) : Bool := match o with
  | some (some (.str m _)) => m == n
  | _ => false
theorem noneR_eq {o : Option (Option Value)} (h : noneR o = true) : o = some none := by
  unfold noneR at h
  split at h
  · rfl
  · cases h
theorem isB_eq {o : Option (Option Value)} {n : String} (h : isB o n = true) : o = some (some (.builtin n)) := by
  unfold isB at h
  split at h
  · rw [eq_of_beq h]
  · cases h
theorem isT_eq {o : Option Value} {n : String} (h : isT o n = true) : o = some (.type n) := by
  unfold isT at h
  split at h
  · rw [eq_of_beq h]
  · cases h
theorem isI_eq {o : Option (Option Value)} {n : Int} (h : isI o n = true) : ∃ t, o = some (some (.int n t)) := by
  unfold isI at h
  split at h
  · exact ⟨_, by rw [eq_of_beq h]⟩
  · cases h
theorem isS_eq {o : Option (Option Value)} {n : Str} (h : isS o n = true) : ∃ t, o = some (some (.str n t)) := by
  unfold isS at h
  split at h
  · exact ⟨_, by rw [eq_of_beq h]⟩
  · cases h
/-- names of the built-in module that the program leaves alone -/
abbrev nbl : List Str := ["len", "int", "max", "min", "abs", "range", "repr", "isinstance"]
abbrev nwl : List Str := ["bool", "str", "tuple", "dict", "set", "all", "list", "sorted"]
def namesB (K : PySem.W.Frag) : Bool := (nbl.all fun x => noneR (PySem.W.nsIn K mainGlobals x)) && (nwl.all fun x => noneR (PySem.W.nsIn K mainGlobals x)) && isI (PySem.W.nsIn K mainGlobals "MAX_LETTERS") 8 && isI (PySem.W.nsIn K mainGlobals "MAX_FIGURES") 60 &&
  isS (PySem.W.nsIn K mainGlobals "_LETTERS") "abcdefghijklmnopqrstuvwxyz" && isI (PySem.W.nsIn K mainGlobals "_NAMES") 702 && isB (PySem.W.nsIn K mainGlobals "gcd") "math.gcd"
/-- what is asked of the error with a value -/
def numB (K : PySem.W.Frag) (C : Addr) : Bool :=
  PySem.W.excInitIn K C ieMro "IndexError.__new__" && PySem.W.excOver K C ieMro && noneR (PySem.W.takerIn K C "value") && isB (PySem.W.findIn K (.ref C) "__setattr__") "object.__setattr__" && isB (PySem.W.findIn K (.ref C) "__getattribute__") "BaseException.__getattribute__" &&
    noneR (PySem.W.findIn K (.ref C) "__getattr__") && noneR (PySem.W.findIn K (.ref C) "value") && PySem.W.keepIn K (.ref C) && (PySem.W.subIn K (.ref C) (.type "BaseException") == some true) && isT (PySem.W.typeIn K (.ref C)) "type" && PySem.W.hasDictIn K C
def opB (K : PySem.W.Frag) (C : Addr) : Bool := PySem.W.excIn K C veMro "ValueError.__new__" && PySem.W.keepIn K (.ref C) && (PySem.W.subIn K (.ref C) (.type "BaseException") == some true) && isT (PySem.W.typeIn K (.ref C)) "type"
def exB (K : PySem.W.Frag) (CN CO : Addr) : Bool := (PySem.W.exmOne K (.ref CN) (.ref CN) == some true) && (PySem.W.exmOne K (.ref CO) (.ref CN) == some false) && (PySem.W.exmOne K (.ref CO) (.ref CO) == some true)
/-- the table of the code object at c -/
def tabA (K : PySem.W.Frag) (c : Addr) : Addr := match K.lookup c with
  | some o => (match o.data with
    | .fields vs => (match (vs[11]? : Option Value) with
      | some (.ref P) => P
      | _ => 0)
    | _ => 0)
  | none => 0
def tabsOkB (K : PySem.W.Frag) (ts cs : List Addr) : Bool := (ts.all fun p => (K.lookup p).isNone && cs.any fun c => tabA K c == p) && (cs.all fun c => ts.contains (tabA K c) && PySem.W.codeHdIn K c (tabA K c)) && decide ((cs.map (tabA K)).Nodup)
section
variable {K : PySem.W.Frag} {h : Heap} {mg : Str → Option Value} {CN CO fN : Addr} {ts : List Addr} {c0 c1 c2 c3 c4 : Addr}
theorem names_of_B (X : K.In h) (G : h.Ns mainGlobals mg) (LL : ∃ t, mg "_LEAST_TOO_LONG" = some (.int 1000000000000000000000000000000000000000000000000000000000000 t)) (q : namesB K = true) : Blt mg ∧ Wd mg := by
  simp only [namesB, Bool.and_eq_true, List.all_eq_true] at q
  obtain ⟨⟨⟨⟨⟨⟨q1, q2⟩, q3⟩, q4⟩, q5⟩, q6⟩, q7⟩ := q
  have a : ∀ x ∈ nbl, mg x = none := fun x hx => PySem.W.mg_none_of X G (noneR_eq (q1 x hx))
  have b : ∀ x ∈ nwl, mg x = none := fun x hx => PySem.W.mg_none_of X G (noneR_eq (q2 x hx))
  obtain ⟨t3, e3⟩ := isI_eq q3
  obtain ⟨t4, e4⟩ := isI_eq q4
  obtain ⟨t5, e5⟩ := isS_eq q5
  obtain ⟨t6, e6⟩ := isI_eq q6
  exact ⟨⟨a _ (by decide +kernel), a _ (by decide +kernel), a _ (by decide +kernel), a _ (by decide +kernel), a _ (by decide +kernel), a _ (by decide +kernel), a _ (by decide +kernel), a _ (by decide +kernel)⟩, ⟨b _ (by decide +kernel), b _ (by decide +kernel), b _ (by decide +kernel), b _ (by decide +kernel), b _ (by decide +kernel), b _ (by decide +kernel), b _ (by decide +kernel), b _ (by decide +kernel), ⟨_, PySem.W.mg_of X G e3⟩, ⟨_, PySem.W.mg_of X G e4⟩, LL, ⟨_, PySem.W.mg_of X G e5⟩, ⟨_, PySem.W.mg_of X G e6⟩, PySem.W.mg_of X G (isB_eq q7)⟩⟩
theorem er_of (gN : mg "InvalidNumber" = some (.ref CN)) (gO : mg "InvalidOperation" = some (.ref CO)) (q : numB K CN = true) (o : opB K CO = true)
    (iC : PySem.W.findIn K (.ref CN) "__init__" = some (some (.ref fN))) (tC : PySem.W.typeIn K (.ref fN) = some (.type "function"))
    (fn : ∃ (oc : Value) (od : Option Addr) (doc pm : Value) (an : Option Addr) (cdv ct : Value) (osl : Array (Option Value)) (p1 p2 q1 q2 q3 q4 : Pos),
      K.lookup fN = some ⟨oc, od, .func (PySem.W.fnOf "__init__" "InvalidNumber.__init__" (iA "value" p1 p2) (iB "value" q1 q2 q3 q4) (iS "value") .none .none doc pm an cdv ct), osl⟩ ∧ PySem.W.codeIn K cdv "InvalidNumber.__init__" = true) : Er K mg CN fN CO := by
  simp only [numB, Bool.and_eq_true, beq_iff_eq] at q
  simp only [opB, Bool.and_eq_true, beq_iff_eq] at o
  obtain ⟨⟨⟨⟨⟨⟨⟨⟨⟨⟨q1, q2⟩, q3⟩, q4⟩, q5⟩, q6⟩, q7⟩, q8⟩, q9⟩, q10⟩, q11⟩ := q
  obtain ⟨⟨⟨o1, o2⟩, o3⟩, o4⟩ := o
  exact ⟨⟨gN, q1, q2, noneR_eq q3, isB_eq q4, isB_eq q5, noneR_eq q6, noneR_eq q7, iC, tC, q8, q9, isT_eq q10, q11, fn⟩, o1, gO, o2, o3, isT_eq o4⟩
theorem ex_of (q : exB K CN CO = true) : Ex K CN CO := by
  simp only [exB, Bool.and_eq_true, beq_iff_eq] at q
  exact ⟨q.1.1, q.1.2, q.2⟩
/-- the tables, with the names of what they hold -/
def tabT (K : PySem.W.Frag) (c0 c1 c2 c3 c4 : Addr) : List (Addr × Str) := [(tabA K c0, "_law_words_right.<locals>.<lambda>"), (tabA K c1, "_law_namings_right.<locals>.<lambda>"), (tabA K c2, "_law_fractions_right.<locals>.<lambda>"), (tabA K c3, "_law_sums_right.<locals>.<lambda>"), (tabA K c4, "_law_sums_refused.<locals>.<lambda>")]
theorem tabT_start {H : Hp} (q : ∀ c ∈ [c0, c1, c2, c3, c4], H (tabA K c) = some (.tbl #[])) : Tabs (tabT K c0 c1 c2 c3 c4) H := by
  have one : ∀ {p : Addr} {s : Str}, H p = some (.tbl #[]) → TabS H p s := fun {p s} e => ⟨#[], e, trivial, fun pos cv z => by cases z⟩
  intro p hp
  simp only [tabT, List.mem_cons, List.not_mem_nil, or_false] at hp
  rcases hp with rfl | rfl | rfl | rfl | rfl
  · exact one (q c0 (by simp))
  · exact one (q c1 (by simp))
  · exact one (q c2 (by simp))
  · exact one (q c3 (by simp))
  · exact one (q c4 (by simp))
theorem tabs_of (q : tabsOkB K ts [c0, c1, c2, c3, c4] = true) : (∀ p ∈ [(c0, tabA K c0), (c1, tabA K c1), (c2, tabA K c2), (c3, tabA K c3), (c4, tabA K c4)], p.2 ∈ ts) ∧ (∀ p ∈ ts, K.lookup p = none) ∧
    (∀ p ∈ ts, ∃ c, (c, p) ∈ [(c0, tabA K c0), (c1, tabA K c1), (c2, tabA K c2), (c3, tabA K c3), (c4, tabA K c4)]) ∧ (∀ p ∈ [(c0, tabA K c0), (c1, tabA K c1), (c2, tabA K c2), (c3, tabA K c3), (c4, tabA K c4)], PySem.W.codeHdIn K p.1 p.2 = true) ∧
    ([tabA K c0, tabA K c1, tabA K c2, tabA K c3, tabA K c4].Nodup) := by
  simp only [tabsOkB, Bool.and_eq_true, List.all_eq_true, List.any_eq_true, beq_iff_eq, decide_eq_true_eq, Option.isNone_iff_eq_none, List.contains_iff_mem] at q
  obtain ⟨⟨q1, q2⟩, q3⟩ := q
  have each : ∀ p ∈ [(c0, tabA K c0), (c1, tabA K c1), (c2, tabA K c2), (c3, tabA K c3), (c4, tabA K c4)], ∃ c ∈ [c0, c1, c2, c3, c4], p = (c, tabA K c) := fun p hp => by
    simp only [List.mem_cons, List.not_mem_nil, or_false] at hp
    rcases hp with rfl | rfl | rfl | rfl | rfl
    · exact ⟨c0, by simp, rfl⟩
    · exact ⟨c1, by simp, rfl⟩
    · exact ⟨c2, by simp, rfl⟩
    · exact ⟨c3, by simp, rfl⟩
    · exact ⟨c4, by simp, rfl⟩
  refine ⟨fun p hp => ?_, fun p hp => (q1 p hp).1, fun p hp => ?_, fun p hp => ?_, q3⟩
  · obtain ⟨c, hc, rfl⟩ := each p hp
    exact (q2 c hc).1
  · obtain ⟨c, hc, e⟩ := (q1 p hp).2
    refine ⟨c, ?_⟩
    rw [← e]
    simp only [List.mem_cons, List.not_mem_nil, or_false] at hc ⊢
    rcases hc with rfl | rfl | rfl | rfl | rfl <;> simp
  · obtain ⟨c, hc, rfl⟩ := each p hp
    exact (q2 c hc).2
theorem tabT_0 : (tabA K c0, ("_law_words_right.<locals>.<lambda>" : Str)) ∈ tabT K c0 c1 c2 c3 c4 := by
  simp [tabT]
theorem tabT_u0 (n : [tabA K c0, tabA K c1, tabA K c2, tabA K c3, tabA K c4].Nodup) : ∀ p ∈ tabT K c0 c1 c2 c3 c4, p.1 = tabA K c0 → p.2 = ("_law_words_right.<locals>.<lambda>" : Str) := by
  simp only [List.nodup_cons, List.mem_cons, List.not_mem_nil, or_false, not_or, List.nodup_nil, and_true, not_false_eq_true] at n
  obtain ⟨⟨n1, n2, n3, n4⟩, ⟨n5, n6, n7⟩, ⟨n8, n9⟩, n10⟩ := n
  intro p hp e
  simp only [tabT, List.mem_cons, List.not_mem_nil, or_false] at hp
  rcases hp with rfl | rfl | rfl | rfl | rfl <;> first | rfl | exact absurd e (by first | exact n1 | exact n2 | exact n3 | exact n4 | exact n5 | exact n6 | exact n7 | exact n8 | exact n9 | exact n10) | exact absurd e.symm (by first | exact n1 | exact n2 | exact n3 | exact n4 | exact n5 | exact n6 | exact n7 | exact n8 | exact n9 | exact n10)
theorem tabT_1 : (tabA K c1, ("_law_namings_right.<locals>.<lambda>" : Str)) ∈ tabT K c0 c1 c2 c3 c4 := by
  simp [tabT]
theorem tabT_u1 (n : [tabA K c0, tabA K c1, tabA K c2, tabA K c3, tabA K c4].Nodup) : ∀ p ∈ tabT K c0 c1 c2 c3 c4, p.1 = tabA K c1 → p.2 = ("_law_namings_right.<locals>.<lambda>" : Str) := by
  simp only [List.nodup_cons, List.mem_cons, List.not_mem_nil, or_false, not_or, List.nodup_nil, and_true, not_false_eq_true] at n
  obtain ⟨⟨n1, n2, n3, n4⟩, ⟨n5, n6, n7⟩, ⟨n8, n9⟩, n10⟩ := n
  intro p hp e
  simp only [tabT, List.mem_cons, List.not_mem_nil, or_false] at hp
  rcases hp with rfl | rfl | rfl | rfl | rfl <;> first | rfl | exact absurd e (by first | exact n1 | exact n2 | exact n3 | exact n4 | exact n5 | exact n6 | exact n7 | exact n8 | exact n9 | exact n10) | exact absurd e.symm (by first | exact n1 | exact n2 | exact n3 | exact n4 | exact n5 | exact n6 | exact n7 | exact n8 | exact n9 | exact n10)
theorem tabT_2 : (tabA K c2, ("_law_fractions_right.<locals>.<lambda>" : Str)) ∈ tabT K c0 c1 c2 c3 c4 := by
  simp [tabT]
theorem tabT_u2 (n : [tabA K c0, tabA K c1, tabA K c2, tabA K c3, tabA K c4].Nodup) : ∀ p ∈ tabT K c0 c1 c2 c3 c4, p.1 = tabA K c2 → p.2 = ("_law_fractions_right.<locals>.<lambda>" : Str) := by
  simp only [List.nodup_cons, List.mem_cons, List.not_mem_nil, or_false, not_or, List.nodup_nil, and_true, not_false_eq_true] at n
  obtain ⟨⟨n1, n2, n3, n4⟩, ⟨n5, n6, n7⟩, ⟨n8, n9⟩, n10⟩ := n
  intro p hp e
  simp only [tabT, List.mem_cons, List.not_mem_nil, or_false] at hp
  rcases hp with rfl | rfl | rfl | rfl | rfl <;> first | rfl | exact absurd e (by first | exact n1 | exact n2 | exact n3 | exact n4 | exact n5 | exact n6 | exact n7 | exact n8 | exact n9 | exact n10) | exact absurd e.symm (by first | exact n1 | exact n2 | exact n3 | exact n4 | exact n5 | exact n6 | exact n7 | exact n8 | exact n9 | exact n10)
theorem tabT_3 : (tabA K c3, ("_law_sums_right.<locals>.<lambda>" : Str)) ∈ tabT K c0 c1 c2 c3 c4 := by
  simp [tabT]
theorem tabT_u3 (n : [tabA K c0, tabA K c1, tabA K c2, tabA K c3, tabA K c4].Nodup) : ∀ p ∈ tabT K c0 c1 c2 c3 c4, p.1 = tabA K c3 → p.2 = ("_law_sums_right.<locals>.<lambda>" : Str) := by
  simp only [List.nodup_cons, List.mem_cons, List.not_mem_nil, or_false, not_or, List.nodup_nil, and_true, not_false_eq_true] at n
  obtain ⟨⟨n1, n2, n3, n4⟩, ⟨n5, n6, n7⟩, ⟨n8, n9⟩, n10⟩ := n
  intro p hp e
  simp only [tabT, List.mem_cons, List.not_mem_nil, or_false] at hp
  rcases hp with rfl | rfl | rfl | rfl | rfl <;> first | rfl | exact absurd e (by first | exact n1 | exact n2 | exact n3 | exact n4 | exact n5 | exact n6 | exact n7 | exact n8 | exact n9 | exact n10) | exact absurd e.symm (by first | exact n1 | exact n2 | exact n3 | exact n4 | exact n5 | exact n6 | exact n7 | exact n8 | exact n9 | exact n10)
theorem tabT_4 : (tabA K c4, ("_law_sums_refused.<locals>.<lambda>" : Str)) ∈ tabT K c0 c1 c2 c3 c4 := by
  simp [tabT]
theorem tabT_u4 (n : [tabA K c0, tabA K c1, tabA K c2, tabA K c3, tabA K c4].Nodup) : ∀ p ∈ tabT K c0 c1 c2 c3 c4, p.1 = tabA K c4 → p.2 = ("_law_sums_refused.<locals>.<lambda>" : Str) := by
  simp only [List.nodup_cons, List.mem_cons, List.not_mem_nil, or_false, not_or, List.nodup_nil, and_true, not_false_eq_true] at n
  obtain ⟨⟨n1, n2, n3, n4⟩, ⟨n5, n6, n7⟩, ⟨n8, n9⟩, n10⟩ := n
  intro p hp e
  simp only [tabT, List.mem_cons, List.not_mem_nil, or_false] at hp
  rcases hp with rfl | rfl | rfl | rfl | rfl <;> first | rfl | exact absurd e (by first | exact n1 | exact n2 | exact n3 | exact n4 | exact n5 | exact n6 | exact n7 | exact n8 | exact n9 | exact n10) | exact absurd e.symm (by first | exact n1 | exact n2 | exact n3 | exact n4 | exact n5 | exact n6 | exact n7 | exact n8 | exact n9 | exact n10)
end
theorem all_mk {l : PySem.W.OpenLaw} {w : World} {K : PySem.W.Frag} {h : Heap} {mg : Str → Option Value} {fa CN CO fN : Addr} {ts : List Addr}
    {f_dice : Addr} {od_dice an_dice : Option Addr} {sl_dice : Array (Option Value)} {oc_dice kV_dice dc_dice pm_dice ct_dice : Value} {cd_dice : Value}
    {f_roll : Addr} {od_roll an_roll : Option Addr} {sl_roll : Array (Option Value)} {oc_roll kV_roll dc_roll pm_roll ct_roll : Value} {cd_roll : Value}
    {f_pick : Addr} {od_pick an_pick : Option Addr} {sl_pick : Array (Option Value)} {oc_pick kV_pick dc_pick pm_pick ct_pick : Value} {cd_pick : Value}
    {f_whole : Addr} {od_whole an_whole : Option Addr} {sl_whole : Array (Option Value)} {oc_whole kV_whole dc_whole pm_whole ct_whole : Value} {cd_whole : Value}
    {f_integer : Addr} {od_integer an_integer : Option Addr} {sl_integer : Array (Option Value)} {oc_integer kV_integer dc_integer pm_integer ct_integer : Value} {cd_integer : Value}
    {f_count : Addr} {od_count an_count : Option Addr} {sl_count : Array (Option Value)} {oc_count kV_count dc_count pm_count ct_count : Value} {cd_count : Value}
    {f_name : Addr} {od_name an_name : Option Addr} {sl_name : Array (Option Value)} {oc_name kV_name dc_name pm_name ct_name : Value} {cd_name : Value}
    {f_names : Addr} {od_names an_names : Option Addr} {sl_names : Array (Option Value)} {oc_names kV_names dc_names pm_names ct_names : Value} {cd_names : Value}
    {f_nthn : Addr} {od_nthn an_nthn : Option Addr} {sl_nthn : Array (Option Value)} {oc_nthn kV_nthn dc_nthn pm_nthn ct_nthn : Value} {cd_nthn : Value}
    {f_fracq : Addr} {od_fracq an_fracq : Option Addr} {sl_fracq : Array (Option Value)} {oc_fracq kV_fracq dc_fracq pm_fracq ct_fracq : Value} {cd_fracq : Value}
    {f_low : Addr} {od_low an_low : Option Addr} {sl_low : Array (Option Value)} {oc_low kV_low dc_low pm_low ct_low : Value} {cd_low : Value}
    {f_frac : Addr} {od_frac an_frac : Option Addr} {sl_frac : Array (Option Value)} {oc_frac kV_frac dc_frac pm_frac ct_frac : Value} {cd_frac : Value}
    {f_check : Addr} {od_check an_check : Option Addr} {sl_check : Array (Option Value)} {oc_check kV_check dc_check pm_check ct_check : Value} {cd_check : Value}
    {f_add : Addr} {od_add an_add : Option Addr} {sl_add : Array (Option Value)} {oc_add kV_add dc_add pm_add ct_add : Value} {cd_add : Value}
    {f_mul : Addr} {od_mul an_mul : Option Addr} {sl_mul : Array (Option Value)} {oc_mul kV_mul dc_mul pm_mul ct_mul : Value} {cd_mul : Value}
    {f_div : Addr} {od_div an_div : Option Addr} {sl_div : Array (Option Value)} {oc_div kV_div dc_div pm_div ct_div : Value} {cd_div : Value}
    {f_shared : Addr} {od_shared an_shared : Option Addr} {sl_shared : Array (Option Value)} {oc_shared kV_shared dc_shared pm_shared ct_shared : Value} {cd_shared : Value}
    {f_value : Addr} {od_value an_value : Option Addr} {sl_value : Array (Option Value)} {oc_value kV_value dc_value pm_value ct_value : Value} {cd_value : Value}
    {f_anyf : Addr} {od_anyf an_anyf : Option Addr} {sl_anyf : Array (Option Value)} {oc_anyf kV_anyf dc_anyf pm_anyf ct_anyf : Value} {cd_anyf : Value}
    {f_anyi : Addr} {od_anyi an_anyi : Option Addr} {sl_anyi : Array (Option Value)} {oc_anyi kV_anyi dc_anyi pm_anyi ct_anyi : Value} {cd_anyi : Value}
    {f_nth : Addr} {od_nth an_nth : Option Addr} {sl_nth : Array (Option Value)} {oc_nth kV_nth dc_nth pm_nth ct_nth : Value} {cd_nth : Value}
    {f_word : Addr} {od_word an_word : Option Addr} {sl_word : Array (Option Value)} {oc_word kV_word dc_word pm_word ct_word : Value} {cd_word : Value}
    {f_lett : Addr} {od_lett an_lett : Option Addr} {sl_lett : Array (Option Value)} {oc_lett kV_lett dc_lett pm_lett ct_lett : Value} {cd_lett : Value}
    {f_err : Addr} {od_err an_err : Option Addr} {sl_err : Array (Option Value)} {oc_err kV_err dc_err pm_err ct_err : Value} {cd_err : Value}
    {f_mixed : Addr} {od_mixed an_mixed : Option Addr} {sl_mixed : Array (Option Value)} {oc_mixed kV_mixed dc_mixed pm_mixed ct_mixed : Value} {cd_mixed : Value}
    {f_naming : Addr} {od_naming an_naming : Option Addr} {sl_naming : Array (Option Value)} {oc_naming kV_naming dc_naming pm_naming ct_naming : Value} {cd_naming : Value}
    {f_words : Addr} {od_words an_words : Option Addr} {sl_words : Array (Option Value)} {oc_words kV_words dc_words pm_words ct_words : Value} {c_words : Addr}
    {f_namr : Addr} {od_namr an_namr : Option Addr} {sl_namr : Array (Option Value)} {oc_namr kV_namr dc_namr pm_namr ct_namr : Value} {c_namr : Addr}
    {f_fracs : Addr} {od_fracs an_fracs : Option Addr} {sl_fracs : Array (Option Value)} {oc_fracs kV_fracs dc_fracs pm_fracs ct_fracs : Value} {c_fracs : Addr}
    {f_sums : Addr} {od_sums an_sums : Option Addr} {sl_sums : Array (Option Value)} {oc_sums kV_sums dc_sums pm_sums ct_sums : Value} {c_sums : Addr}
    {f_refused : Addr} {od_refused an_refused : Option Addr} {sl_refused : Array (Option Value)} {oc_refused kV_refused dc_refused pm_refused ct_refused : Value} {c_refused : Addr}
    {f_law : Addr} {od_law an_law : Option Addr} {sl_law : Array (Option Value)} {oc_law kV_law dc_law pm_law ct_law : Value} {cd_law : Value}
    {od_g an_g : Option Addr} {sl_g : Array (Option Value)} {oc_g dc_g pm_g cd_g ct_g : Value} {q1 q2 q3 q4 q5 q6 : Pos}
    (X : K.In h) (G : h.Ns mainGlobals mg) (hfa : mg "law" = some (.ref fa))
    (a_dice : PySem.W.nsIn K mainGlobals "_law_dice" = some (some (.ref f_dice))) (l_dice : K.lookup f_dice = some ⟨oc_dice, od_dice, .func (PySem.W.fnOf "_law_dice" "_law_dice" (defArgs sdice) (defBody sdice) (defScope sdice) .none kV_dice dc_dice pm_dice an_dice cd_dice ct_dice), sl_dice⟩) (c_l_dice : PySem.W.codeIn K cd_dice "_law_dice" = true) (k_dice : PySem.W.keepIn K (.ref f_dice) = true)
    (a_roll : PySem.W.nsIn K mainGlobals "_law_roll" = some (some (.ref f_roll))) (l_roll : K.lookup f_roll = some ⟨oc_roll, od_roll, .func (PySem.W.fnOf "_law_roll" "_law_roll" (defArgs sroll) (defBody sroll) (defScope sroll) .none kV_roll dc_roll pm_roll an_roll cd_roll ct_roll), sl_roll⟩) (c_l_roll : PySem.W.codeIn K cd_roll "_law_roll" = true) (k_roll : PySem.W.keepIn K (.ref f_roll) = true)
    (a_pick : PySem.W.nsIn K mainGlobals "_law_pick" = some (some (.ref f_pick))) (l_pick : K.lookup f_pick = some ⟨oc_pick, od_pick, .func (PySem.W.fnOf "_law_pick" "_law_pick" (defArgs spick) (defBody spick) (defScope spick) .none kV_pick dc_pick pm_pick an_pick cd_pick ct_pick), sl_pick⟩) (c_l_pick : PySem.W.codeIn K cd_pick "_law_pick" = true) (k_pick : PySem.W.keepIn K (.ref f_pick) = true)
    (a_whole : PySem.W.nsIn K mainGlobals "is_whole" = some (some (.ref f_whole))) (l_whole : K.lookup f_whole = some ⟨oc_whole, od_whole, .func (PySem.W.fnOf "is_whole" "is_whole" (defArgs swhole) (defBody swhole) (defScope swhole) .none kV_whole dc_whole pm_whole an_whole cd_whole ct_whole), sl_whole⟩) (c_l_whole : PySem.W.codeIn K cd_whole "is_whole" = true) (k_whole : PySem.W.keepIn K (.ref f_whole) = true)
    (a_integer : PySem.W.nsIn K mainGlobals "is_integer" = some (some (.ref f_integer))) (l_integer : K.lookup f_integer = some ⟨oc_integer, od_integer, .func (PySem.W.fnOf "is_integer" "is_integer" (defArgs sinteger) (defBody sinteger) (defScope sinteger) .none kV_integer dc_integer pm_integer an_integer cd_integer ct_integer), sl_integer⟩) (c_l_integer : PySem.W.codeIn K cd_integer "is_integer" = true) (k_integer : PySem.W.keepIn K (.ref f_integer) = true)
    (a_count : PySem.W.nsIn K mainGlobals "is_count" = some (some (.ref f_count))) (l_count : K.lookup f_count = some ⟨oc_count, od_count, .func (PySem.W.fnOf "is_count" "is_count" (defArgs scount) (defBody scount) (defScope scount) .none kV_count dc_count pm_count an_count cd_count ct_count), sl_count⟩) (c_l_count : PySem.W.codeIn K cd_count "is_count" = true) (k_count : PySem.W.keepIn K (.ref f_count) = true)
    (a_name : PySem.W.nsIn K mainGlobals "is_name" = some (some (.ref f_name))) (l_name : K.lookup f_name = some ⟨oc_name, od_name, .func (PySem.W.fnOf "is_name" "is_name" (defArgs sname) (defBody sname) (defScope sname) .none kV_name dc_name pm_name an_name cd_name ct_name), sl_name⟩) (c_l_name : PySem.W.codeIn K cd_name "is_name" = true) (k_name : PySem.W.keepIn K (.ref f_name) = true)
    (a_names : PySem.W.nsIn K mainGlobals "are_names" = some (some (.ref f_names))) (l_names : K.lookup f_names = some ⟨oc_names, od_names, .func (PySem.W.fnOf "are_names" "are_names" (defArgs snames) (defBody snames) (defScope snames) .none kV_names dc_names pm_names an_names cd_names ct_names), sl_names⟩) (c_l_names : PySem.W.codeIn K cd_names "are_names" = true) (k_names : PySem.W.keepIn K (.ref f_names) = true)
    (a_nthn : PySem.W.nsIn K mainGlobals "nth_name" = some (some (.ref f_nthn))) (l_nthn : K.lookup f_nthn = some ⟨oc_nthn, od_nthn, .func (PySem.W.fnOf "nth_name" "nth_name" (defArgs snthn) (defBody snthn) (defScope snthn) .none kV_nthn dc_nthn pm_nthn an_nthn cd_nthn ct_nthn), sl_nthn⟩) (c_l_nthn : PySem.W.codeIn K cd_nthn "nth_name" = true) (k_nthn : PySem.W.keepIn K (.ref f_nthn) = true)
    (a_fracq : PySem.W.nsIn K mainGlobals "is_fraction" = some (some (.ref f_fracq))) (l_fracq : K.lookup f_fracq = some ⟨oc_fracq, od_fracq, .func (PySem.W.fnOf "is_fraction" "is_fraction" (defArgs sfracq) (defBody sfracq) (defScope sfracq) .none kV_fracq dc_fracq pm_fracq an_fracq cd_fracq ct_fracq), sl_fracq⟩) (c_l_fracq : PySem.W.codeIn K cd_fracq "is_fraction" = true) (k_fracq : PySem.W.keepIn K (.ref f_fracq) = true)
    (a_low : PySem.W.nsIn K mainGlobals "in_lowest_terms" = some (some (.ref f_low))) (l_low : K.lookup f_low = some ⟨oc_low, od_low, .func (PySem.W.fnOf "in_lowest_terms" "in_lowest_terms" (defArgs slow) (defBody slow) (defScope slow) .none kV_low dc_low pm_low an_low cd_low ct_low), sl_low⟩) (c_l_low : PySem.W.codeIn K cd_low "in_lowest_terms" = true) (k_low : PySem.W.keepIn K (.ref f_low) = true)
    (a_frac : PySem.W.nsIn K mainGlobals "fraction" = some (some (.ref f_frac))) (l_frac : K.lookup f_frac = some ⟨oc_frac, od_frac, .func (PySem.W.fnOf "fraction" "fraction" (defArgs sfrac) (defBody sfrac) (defScope sfrac) .none kV_frac dc_frac pm_frac an_frac cd_frac ct_frac), sl_frac⟩) (c_l_frac : PySem.W.codeIn K cd_frac "fraction" = true) (k_frac : PySem.W.keepIn K (.ref f_frac) = true)
    (a_check : PySem.W.nsIn K mainGlobals "_check_fractions" = some (some (.ref f_check))) (l_check : K.lookup f_check = some ⟨oc_check, od_check, .func (PySem.W.fnOf "_check_fractions" "_check_fractions" (defArgs scheck) (defBody scheck) (defScope scheck) .none kV_check dc_check pm_check an_check cd_check ct_check), sl_check⟩) (c_l_check : PySem.W.codeIn K cd_check "_check_fractions" = true) (k_check : PySem.W.keepIn K (.ref f_check) = true)
    (a_add : PySem.W.nsIn K mainGlobals "added" = some (some (.ref f_add))) (l_add : K.lookup f_add = some ⟨oc_add, od_add, .func (PySem.W.fnOf "added" "added" (defArgs sadd) (defBody sadd) (defScope sadd) .none kV_add dc_add pm_add an_add cd_add ct_add), sl_add⟩) (c_l_add : PySem.W.codeIn K cd_add "added" = true) (k_add : PySem.W.keepIn K (.ref f_add) = true)
    (a_mul : PySem.W.nsIn K mainGlobals "multiplied" = some (some (.ref f_mul))) (l_mul : K.lookup f_mul = some ⟨oc_mul, od_mul, .func (PySem.W.fnOf "multiplied" "multiplied" (defArgs smul) (defBody smul) (defScope smul) .none kV_mul dc_mul pm_mul an_mul cd_mul ct_mul), sl_mul⟩) (c_l_mul : PySem.W.codeIn K cd_mul "multiplied" = true) (k_mul : PySem.W.keepIn K (.ref f_mul) = true)
    (a_div : PySem.W.nsIn K mainGlobals "divided" = some (some (.ref f_div))) (l_div : K.lookup f_div = some ⟨oc_div, od_div, .func (PySem.W.fnOf "divided" "divided" (defArgs sdiv) (defBody sdiv) (defScope sdiv) .none kV_div dc_div pm_div an_div cd_div ct_div), sl_div⟩) (c_l_div : PySem.W.codeIn K cd_div "divided" = true) (k_div : PySem.W.keepIn K (.ref f_div) = true)
    (a_shared : PySem.W.nsIn K mainGlobals "_law_shared" = some (some (.ref f_shared))) (l_shared : K.lookup f_shared = some ⟨oc_shared, od_shared, .func (PySem.W.fnOf "_law_shared" "_law_shared" (defArgs sshared) (defBody sshared) (defScope sshared) .none kV_shared dc_shared pm_shared an_shared cd_shared ct_shared), sl_shared⟩) (c_l_shared : PySem.W.codeIn K cd_shared "_law_shared" = true) (k_shared : PySem.W.keepIn K (.ref f_shared) = true)
    (a_value : PySem.W.nsIn K mainGlobals "_law_is_value" = some (some (.ref f_value))) (l_value : K.lookup f_value = some ⟨oc_value, od_value, .func (PySem.W.fnOf "_law_is_value" "_law_is_value" (defArgs svalue) (defBody svalue) (defScope svalue) .none kV_value dc_value pm_value an_value cd_value ct_value), sl_value⟩) (c_l_value : PySem.W.codeIn K cd_value "_law_is_value" = true) (k_value : PySem.W.keepIn K (.ref f_value) = true)
    (a_anyf : PySem.W.nsIn K mainGlobals "_law_any_fraction" = some (some (.ref f_anyf))) (l_anyf : K.lookup f_anyf = some ⟨oc_anyf, od_anyf, .func (PySem.W.fnOf "_law_any_fraction" "_law_any_fraction" (defArgs sanyf) (defBody sanyf) (defScope sanyf) .none kV_anyf dc_anyf pm_anyf an_anyf cd_anyf ct_anyf), sl_anyf⟩) (c_l_anyf : PySem.W.codeIn K cd_anyf "_law_any_fraction" = true) (k_anyf : PySem.W.keepIn K (.ref f_anyf) = true)
    (a_anyi : PySem.W.nsIn K mainGlobals "_law_any_integer" = some (some (.ref f_anyi))) (l_anyi : K.lookup f_anyi = some ⟨oc_anyi, od_anyi, .func (PySem.W.fnOf "_law_any_integer" "_law_any_integer" (defArgs sanyi) (defBody sanyi) (defScope sanyi) .none kV_anyi dc_anyi pm_anyi an_anyi cd_anyi ct_anyi), sl_anyi⟩) (c_l_anyi : PySem.W.codeIn K cd_anyi "_law_any_integer" = true) (k_anyi : PySem.W.keepIn K (.ref f_anyi) = true)
    (a_nth : PySem.W.nsIn K mainGlobals "_law_nth" = some (some (.ref f_nth))) (l_nth : K.lookup f_nth = some ⟨oc_nth, od_nth, .func (PySem.W.fnOf "_law_nth" "_law_nth" (defArgs snth) (defBody snth) (defScope snth) .none kV_nth dc_nth pm_nth an_nth cd_nth ct_nth), sl_nth⟩) (c_l_nth : PySem.W.codeIn K cd_nth "_law_nth" = true) (k_nth : PySem.W.keepIn K (.ref f_nth) = true)
    (a_word : PySem.W.nsIn K mainGlobals "_law_any_word" = some (some (.ref f_word))) (l_word : K.lookup f_word = some ⟨oc_word, od_word, .func (PySem.W.fnOf "_law_any_word" "_law_any_word" (defArgs swordA) (defBody swordA) (defScope swordA) .none kV_word dc_word pm_word an_word cd_word ct_word), sl_word⟩) (c_l_word : PySem.W.codeIn K cd_word "_law_any_word" = true) (k_word : PySem.W.keepIn K (.ref f_word) = true)
    (a_lett : PySem.W.nsIn K mainGlobals "_law_lettered" = some (some (.ref f_lett))) (l_lett : K.lookup f_lett = some ⟨oc_lett, od_lett, .func (PySem.W.fnOf "_law_lettered" "_law_lettered" (defArgs slettered) (defBody slettered) (defScope slettered) .none kV_lett dc_lett pm_lett an_lett cd_lett ct_lett), sl_lett⟩) (c_l_lett : PySem.W.codeIn K cd_lett "_law_lettered" = true) (k_lett : PySem.W.keepIn K (.ref f_lett) = true)
    (a_err : PySem.W.nsIn K mainGlobals "_law_error" = some (some (.ref f_err))) (l_err : K.lookup f_err = some ⟨oc_err, od_err, .func (PySem.W.fnOf "_law_error" "_law_error" (defArgs serr) (defBody serr) (defScope serr) .none kV_err dc_err pm_err an_err cd_err ct_err), sl_err⟩) (c_l_err : PySem.W.codeIn K cd_err "_law_error" = true) (k_err : PySem.W.keepIn K (.ref f_err) = true)
    (a_mixed : PySem.W.nsIn K mainGlobals "_law_mixed" = some (some (.ref f_mixed))) (l_mixed : K.lookup f_mixed = some ⟨oc_mixed, od_mixed, .func (PySem.W.fnOf "_law_mixed" "_law_mixed" (defArgs smixed) (defBody smixed) (defScope smixed) .none kV_mixed dc_mixed pm_mixed an_mixed cd_mixed ct_mixed), sl_mixed⟩) (c_l_mixed : PySem.W.codeIn K cd_mixed "_law_mixed" = true) (k_mixed : PySem.W.keepIn K (.ref f_mixed) = true)
    (a_naming : PySem.W.nsIn K mainGlobals "is_naming" = some (some (.ref f_naming))) (l_naming : K.lookup f_naming = some ⟨oc_naming, od_naming, .func (PySem.W.fnOf "is_naming" "is_naming" (defArgs snaming) (defBody snaming) (defScope snaming) .none kV_naming dc_naming pm_naming an_naming cd_naming ct_naming), sl_naming⟩) (c_l_naming : PySem.W.codeIn K cd_naming "is_naming" = true) (k_naming : PySem.W.keepIn K (.ref f_naming) = true)
    (a_words : PySem.W.nsIn K mainGlobals "_law_words_right" = some (some (.ref f_words))) (l_words : K.lookup f_words = some ⟨oc_words, od_words, .func (PySem.W.fnOf "_law_words_right" "_law_words_right" (defArgs swords) (defBody swords) (defScope swords) .none kV_words dc_words pm_words an_words (.ref c_words) ct_words), sl_words⟩) (c_l_words : PySem.W.codeIn K (.ref c_words) "_law_words_right" = true) (k_words : PySem.W.keepIn K (.ref f_words) = true)
    (a_namr : PySem.W.nsIn K mainGlobals "_law_namings_right" = some (some (.ref f_namr))) (l_namr : K.lookup f_namr = some ⟨oc_namr, od_namr, .func (PySem.W.fnOf "_law_namings_right" "_law_namings_right" (defArgs snamr) (defBody snamr) (defScope snamr) .none kV_namr dc_namr pm_namr an_namr (.ref c_namr) ct_namr), sl_namr⟩) (c_l_namr : PySem.W.codeIn K (.ref c_namr) "_law_namings_right" = true) (k_namr : PySem.W.keepIn K (.ref f_namr) = true)
    (a_fracs : PySem.W.nsIn K mainGlobals "_law_fractions_right" = some (some (.ref f_fracs))) (l_fracs : K.lookup f_fracs = some ⟨oc_fracs, od_fracs, .func (PySem.W.fnOf "_law_fractions_right" "_law_fractions_right" (defArgs sfracs) (defBody sfracs) (defScope sfracs) .none kV_fracs dc_fracs pm_fracs an_fracs (.ref c_fracs) ct_fracs), sl_fracs⟩) (c_l_fracs : PySem.W.codeIn K (.ref c_fracs) "_law_fractions_right" = true) (k_fracs : PySem.W.keepIn K (.ref f_fracs) = true)
    (a_sums : PySem.W.nsIn K mainGlobals "_law_sums_right" = some (some (.ref f_sums))) (l_sums : K.lookup f_sums = some ⟨oc_sums, od_sums, .func (PySem.W.fnOf "_law_sums_right" "_law_sums_right" (defArgs ssums) (defBody ssums) (defScope ssums) .none kV_sums dc_sums pm_sums an_sums (.ref c_sums) ct_sums), sl_sums⟩) (c_l_sums : PySem.W.codeIn K (.ref c_sums) "_law_sums_right" = true) (k_sums : PySem.W.keepIn K (.ref f_sums) = true)
    (a_refused : PySem.W.nsIn K mainGlobals "_law_sums_refused" = some (some (.ref f_refused))) (l_refused : K.lookup f_refused = some ⟨oc_refused, od_refused, .func (PySem.W.fnOf "_law_sums_refused" "_law_sums_refused" (defArgs srefused) (defBody srefused) (defScope srefused) .none kV_refused dc_refused pm_refused an_refused (.ref c_refused) ct_refused), sl_refused⟩) (c_l_refused : PySem.W.codeIn K (.ref c_refused) "_law_sums_refused" = true) (k_refused : PySem.W.keepIn K (.ref f_refused) = true)
    (a_law : PySem.W.nsIn K mainGlobals "law" = some (some (.ref f_law))) (l_law : K.lookup f_law = some ⟨oc_law, od_law, .func (PySem.W.fnOf "law" "law" (defArgs slaw) (defBody slaw) (defScope slaw) .none kV_law dc_law pm_law an_law cd_law ct_law), sl_law⟩) (c_l_law : PySem.W.codeIn K cd_law "law" = true) (k_law : PySem.W.keepIn K (.ref f_law) = true)
    (a_g : PySem.W.nsIn K mainGlobals "InvalidNumber" = some (some (.ref CN))) (a_i : PySem.W.findIn K (.ref CN) "__init__" = some (some (.ref fN))) (a_t : PySem.W.typeIn K (.ref fN) = some (.type "function")) (l_g : K.lookup fN = some ⟨oc_g, od_g, .func (PySem.W.fnOf "__init__" "InvalidNumber.__init__" (iA "value" q1 q2) (iB "value" q3 q4 q5 q6) (iS "value") .none .none dc_g pm_g an_g cd_g ct_g), sl_g⟩) (c_g : PySem.W.codeIn K cd_g "InvalidNumber.__init__" = true)
    (a_o : PySem.W.nsIn K mainGlobals "InvalidOperation" = some (some (.ref CO)))
    (b_n : namesB K = true) (b_i : numB K CN = true) (b_o : opB K CO = true) (b_e : exB K CN CO = true) (b_t : tabsOkB K ts [c_words, c_namr, c_fracs, c_sums, c_refused] = true)
    (LL : ∃ t, mg "_LEAST_TOO_LONG" = some (.int 1000000000000000000000000000000000000000000000000000000000000 t)) :
    LawT l w K 8 63 "_law_script" mg fa ts := by
  have e := hfa.symm.trans (PySem.W.mg_of X G a_law)
  cases e
  obtain ⟨B, WD⟩ := names_of_B X G LL b_n
  have F_dice := fun_mk (st := sdice) l_dice c_l_dice k_dice
  have d_dice := F_dice.binds (ps := ["_law_script", "_law_spot"]) fun _ _ _ _ _ _ us hl => match us, hl with | [_, _], _ => rfl
  have m_dice := PySem.W.mg_of X G a_dice
  have F_roll := fun_mk (st := sroll) l_roll c_l_roll k_roll
  have d_roll := F_roll.binds (ps := ["_law_dice_here", "_law_total"]) fun _ _ _ _ _ _ us hl => match us, hl with | [_, _], _ => rfl
  have m_roll := PySem.W.mg_of X G a_roll
  have F_pick := fun_mk (st := spick) l_pick c_l_pick k_pick
  have d_pick := F_pick.binds (ps := ["_law_dice_here", "_law_items"]) fun _ _ _ _ _ _ us hl => match us, hl with | [_, _], _ => rfl
  have m_pick := PySem.W.mg_of X G a_pick
  have F_whole := fun_mk (st := swhole) l_whole c_l_whole k_whole
  have d_whole := F_whole.binds (ps := ["value"]) fun _ _ _ _ _ _ us hl => match us, hl with | [_], _ => rfl
  have m_whole := PySem.W.mg_of X G a_whole
  have F_integer := fun_mk (st := sinteger) l_integer c_l_integer k_integer
  have d_integer := F_integer.binds (ps := ["value"]) fun _ _ _ _ _ _ us hl => match us, hl with | [_], _ => rfl
  have m_integer := PySem.W.mg_of X G a_integer
  have F_count := fun_mk (st := scount) l_count c_l_count k_count
  have d_count := F_count.binds (ps := ["value"]) fun _ _ _ _ _ _ us hl => match us, hl with | [_], _ => rfl
  have m_count := PySem.W.mg_of X G a_count
  have F_name := fun_mk (st := sname) l_name c_l_name k_name
  have d_name := F_name.binds (ps := ["value"]) fun _ _ _ _ _ _ us hl => match us, hl with | [_], _ => rfl
  have m_name := PySem.W.mg_of X G a_name
  have F_names := fun_mk (st := snames) l_names c_l_names k_names
  have d_names := F_names.binds (ps := ["value"]) fun _ _ _ _ _ _ us hl => match us, hl with | [_], _ => rfl
  have m_names := PySem.W.mg_of X G a_names
  have F_nthn := fun_mk (st := snthn) l_nthn c_l_nthn k_nthn
  have d_nthn := F_nthn.binds (ps := ["index"]) fun _ _ _ _ _ _ us hl => match us, hl with | [_], _ => rfl
  have m_nthn := PySem.W.mg_of X G a_nthn
  have F_fracq := fun_mk (st := sfracq) l_fracq c_l_fracq k_fracq
  have d_fracq := F_fracq.binds (ps := ["value"]) fun _ _ _ _ _ _ us hl => match us, hl with | [_], _ => rfl
  have m_fracq := PySem.W.mg_of X G a_fracq
  have F_low := fun_mk (st := slow) l_low c_l_low k_low
  have d_low := F_low.binds (ps := ["top", "bottom"]) fun _ _ _ _ _ _ us hl => match us, hl with | [_, _], _ => rfl
  have m_low := PySem.W.mg_of X G a_low
  have F_frac := fun_mk (st := sfrac) l_frac c_l_frac k_frac
  have d_frac := F_frac.binds (ps := ["top", "bottom"]) fun _ _ _ _ _ _ us hl => match us, hl with | [_, _], _ => rfl
  have m_frac := PySem.W.mg_of X G a_frac
  have F_check := fun_mk (st := scheck) l_check c_l_check k_check
  have d_check := F_check.binds (ps := ["one", "other"]) fun _ _ _ _ _ _ us hl => match us, hl with | [_, _], _ => rfl
  have m_check := PySem.W.mg_of X G a_check
  have F_add := fun_mk (st := sadd) l_add c_l_add k_add
  have d_add := F_add.binds (ps := ["one", "other"]) fun _ _ _ _ _ _ us hl => match us, hl with | [_, _], _ => rfl
  have m_add := PySem.W.mg_of X G a_add
  have F_mul := fun_mk (st := smul) l_mul c_l_mul k_mul
  have d_mul := F_mul.binds (ps := ["one", "other"]) fun _ _ _ _ _ _ us hl => match us, hl with | [_, _], _ => rfl
  have m_mul := PySem.W.mg_of X G a_mul
  have F_div := fun_mk (st := sdiv) l_div c_l_div k_div
  have d_div := F_div.binds (ps := ["one", "other"]) fun _ _ _ _ _ _ us hl => match us, hl with | [_, _], _ => rfl
  have m_div := PySem.W.mg_of X G a_div
  have F_shared := fun_mk (st := sshared) l_shared c_l_shared k_shared
  have d_shared := F_shared.binds (ps := ["_law_one", "_law_other"]) fun _ _ _ _ _ _ us hl => match us, hl with | [_, _], _ => rfl
  have m_shared := PySem.W.mg_of X G a_shared
  have F_value := fun_mk (st := svalue) l_value c_l_value k_value
  have d_value := F_value.binds (ps := ["_law_found", "_law_top", "_law_bottom"]) fun _ _ _ _ _ _ us hl => match us, hl with | [_, _, _], _ => rfl
  have m_value := PySem.W.mg_of X G a_value
  have F_anyf := fun_mk (st := sanyf) l_anyf c_l_anyf k_anyf
  have d_anyf := F_anyf.binds (ps := ["_law_dice_here"]) fun _ _ _ _ _ _ us hl => match us, hl with | [_], _ => rfl
  have m_anyf := PySem.W.mg_of X G a_anyf
  have F_anyi := fun_mk (st := sanyi) l_anyi c_l_anyi k_anyi
  have d_anyi := F_anyi.binds (ps := ["_law_dice_here"]) fun _ _ _ _ _ _ us hl => match us, hl with | [_], _ => rfl
  have m_anyi := PySem.W.mg_of X G a_anyi
  have F_nth := fun_mk (st := snth) l_nth c_l_nth k_nth
  have d_nth := F_nth.binds (ps := ["_law_index"]) fun _ _ _ _ _ _ us hl => match us, hl with | [_], _ => rfl
  have m_nth := PySem.W.mg_of X G a_nth
  have F_word := fun_mk (st := swordA) l_word c_l_word k_word
  have d_word := F_word.binds (ps := ["_law_dice_here"]) fun _ _ _ _ _ _ us hl => match us, hl with | [_], _ => rfl
  have m_word := PySem.W.mg_of X G a_word
  have F_lett := fun_mk (st := slettered) l_lett c_l_lett k_lett
  have d_lett := F_lett.binds (ps := ["_law_value"]) fun _ _ _ _ _ _ us hl => match us, hl with | [_], _ => rfl
  have m_lett := PySem.W.mg_of X G a_lett
  have F_err := fun_mk (st := serr) l_err c_l_err k_err
  have d_err := F_err.binds (ps := ["_law_call"]) fun _ _ _ _ _ _ us hl => match us, hl with | [_], _ => rfl
  have m_err := PySem.W.mg_of X G a_err
  have F_mixed := fun_mk (st := smixed) l_mixed c_l_mixed k_mixed
  have d_mixed := F_mixed.binds (ps := ["_law_dice_here", "_law_items"]) fun _ _ _ _ _ _ us hl => match us, hl with | [_, _], _ => rfl
  have m_mixed := PySem.W.mg_of X G a_mixed
  have F_naming := fun_mk (st := snaming) l_naming c_l_naming k_naming
  have d_naming := F_naming.binds (ps := ["names", "value"]) fun _ _ _ _ _ _ us hl => match us, hl with | [_, _], _ => rfl
  have m_naming := PySem.W.mg_of X G a_naming
  have F_words := fun_mk (st := swords) l_words c_l_words k_words
  have d_words := F_words.binds (ps := ["_law_dice_here"]) fun _ _ _ _ _ _ us hl => match us, hl with | [_], _ => rfl
  have m_words := PySem.W.mg_of X G a_words
  have F_namr := fun_mk (st := snamr) l_namr c_l_namr k_namr
  have d_namr := F_namr.binds (ps := ["_law_dice_here"]) fun _ _ _ _ _ _ us hl => match us, hl with | [_], _ => rfl
  have m_namr := PySem.W.mg_of X G a_namr
  have F_fracs := fun_mk (st := sfracs) l_fracs c_l_fracs k_fracs
  have d_fracs := F_fracs.binds (ps := ["_law_dice_here"]) fun _ _ _ _ _ _ us hl => match us, hl with | [_], _ => rfl
  have m_fracs := PySem.W.mg_of X G a_fracs
  have F_sums := fun_mk (st := ssums) l_sums c_l_sums k_sums
  have d_sums := F_sums.binds (ps := ["_law_dice_here"]) fun _ _ _ _ _ _ us hl => match us, hl with | [_], _ => rfl
  have m_sums := PySem.W.mg_of X G a_sums
  have F_refused := fun_mk (st := srefused) l_refused c_l_refused k_refused
  have d_refused := F_refused.binds (ps := ["_law_dice_here"]) fun _ _ _ _ _ _ us hl => match us, hl with | [_], _ => rfl
  have m_refused := PySem.W.mg_of X G a_refused
  have F_law := fun_mk (st := slaw) l_law c_l_law k_law
  have m_law := PySem.W.mg_of X G a_law
  have C_words : FunC K "_law_words_right" "_law_words_right" swords f_words _ c_words := ⟨⟨_, _, _, _, _, _, _, _, rfl, l_words, c_l_words⟩, k_words⟩
  have C_namr : FunC K "_law_namings_right" "_law_namings_right" snamr f_namr _ c_namr := ⟨⟨_, _, _, _, _, _, _, _, rfl, l_namr, c_l_namr⟩, k_namr⟩
  have C_fracs : FunC K "_law_fractions_right" "_law_fractions_right" sfracs f_fracs _ c_fracs := ⟨⟨_, _, _, _, _, _, _, _, rfl, l_fracs, c_l_fracs⟩, k_fracs⟩
  have C_sums : FunC K "_law_sums_right" "_law_sums_right" ssums f_sums _ c_sums := ⟨⟨_, _, _, _, _, _, _, _, rfl, l_sums, c_l_sums⟩, k_sums⟩
  have C_refused : FunC K "_law_sums_refused" "_law_sums_refused" srefused f_refused _ c_refused := ⟨⟨_, _, _, _, _, _, _, _, rfl, l_refused, c_l_refused⟩, k_refused⟩
  have Z := er_of (PySem.W.mg_of X G a_g) (PySem.W.mg_of X G a_o) b_i b_o a_i a_t ⟨_, _, _, _, _, _, _, _, _, _, _, _, _, _, l_g, c_g⟩
  have Y := ex_of b_e
  obtain ⟨u1, u2, u3, u4, u5⟩ := tabs_of b_t
  refine ⟨PySem.W.fnOf "law" "law" (defArgs slaw) (defBody slaw) (defScope slaw) .none kV_law dc_law pm_law an_law cd_law ct_law, [(c_words, tabA K c_words), (c_namr, tabA K c_namr), (c_fracs, tabA K c_fracs), (c_sums, tabA K c_sums), (c_refused, tabA K c_refused)], spLaw K (tabT K c_words c_namr c_fracs c_sums c_refused), u1, u2, u3, u4, fun s v => .of_eq rfl, fun H a ns hl hT hS => ⟨a, ns, rfl, hS, Nat.le_trans hl (by decide), tabT_start fun c hc => hT _ (u1 (c, tabA K c) ?_), fun _ => rfl⟩, fun base _ _ tb => ?_⟩
  · simp only [List.mem_cons, List.not_mem_nil, or_false] at hc ⊢
    rcases hc with rfl | rfl | rfl | rfl | rfl <;> simp
  have T_words : TabB base mg c_words (tabA K c_words) := tb (c_words, tabA K c_words) (by simp)
  have T_namr : TabB base mg c_namr (tabA K c_namr) := tb (c_namr, tabA K c_namr) (by simp)
  have T_fracs : TabB base mg c_fracs (tabA K c_fracs) := tb (c_fracs, tabA K c_fracs) (by simp)
  have T_sums : TabB base mg c_sums (tabA K c_sums) := tb (c_sums, tabA K c_sums) (by simp)
  have T_refused : TabB base mg c_refused (tabA K c_refused) := tb (c_refused, tabA K c_refused) (by simp)
  have G_dice : FnOk l.prog w K mg base L2.CX0 1 f_dice _ _ _ := ok_dice F_dice B
  have G_roll : FnOk l.prog w K mg base L2.CX0 1 f_roll _ _ _ := ok_roll F_roll B
  have G_pick : FnOk l.prog w K mg base L2.CX0 2 f_pick _ _ _ := ok_pick F_pick B F_roll m_roll d_roll
  have G_whole : FnOk l.prog w K mg base L2.CX0 1 f_whole _ _ _ := ok_whole F_whole B WD
  have G_integer : FnOk l.prog w K mg base L2.CX0 2 f_integer _ _ _ := ok_integer F_integer F_whole G_whole m_whole d_whole WD
  have G_count : FnOk l.prog w K mg base L2.CX0 3 f_count _ _ _ := ok_count F_count F_integer G_integer m_integer d_integer
  have G_name : FnOk l.prog w K mg base L2.CX0 1 f_name _ _ _ := ok_name F_name B WD
  have G_names : FnOk l.prog w K mg base L2.CX0 2 f_names _ _ _ := ok_names F_names F_name G_name m_name d_name B WD
  have G_nthn : FnOk l.prog w K mg base (L2.CX l.prog w) 4 f_nthn _ _ _ := ok_nth F_nthn F_count G_count m_count d_count B WD Z
  have G_fracq : FnOk l.prog w K mg base L2.CX0 2 f_fracq _ _ _ := ok_fracq F_fracq F_whole G_whole m_whole d_whole B WD
  have G_low : FnOk l.prog w K mg base L2.CX0 1 f_low _ _ _ := ok_low F_low WD
  have G_frac : FnOk l.prog w K mg base (L2.CX l.prog w) 3 f_frac _ _ _ := ok_frac F_frac F_integer G_integer m_integer d_integer F_low G_low m_low d_low Z
  have G_check : FnOk l.prog w K mg base (L2.CX l.prog w) 3 f_check _ _ _ := ok_check F_check F_fracq G_fracq m_fracq d_fracq Z
  have G_add : FnOk l.prog w K mg base (L2.CX l.prog w) 4 f_add _ _ _ := ok_add F_add F_check G_check m_check d_check F_low G_low m_low d_low
  have G_mul : FnOk l.prog w K mg base (L2.CX l.prog w) 4 f_mul _ _ _ := ok_mul F_mul F_check G_check m_check d_check F_low G_low m_low d_low
  have G_div : FnOk l.prog w K mg base (L2.CX l.prog w) 4 f_div _ _ _ := ok_div F_div F_check G_check m_check d_check F_low G_low m_low d_low Z
  have G_shared : FnOk l.prog w K mg base L2.CX0 1 f_shared _ _ _ := ok_shared F_shared B
  have G_value : FnOk l.prog w K mg base L2.CX0 2 f_value _ _ _ := ok_value F_value F_shared G_shared m_shared d_shared B WD
  have G_anyf : FnOk l.prog w K mg base L2.CX0 3 f_anyf _ _ _ := ok_anyf F_anyf F_roll G_roll m_roll d_roll F_pick G_pick m_pick d_pick F_shared G_shared m_shared d_shared B
  have G_nth : FnOk l.prog w K mg base L2.CX0 1 f_nth _ _ _ := ok_lawnth F_nth B
  have G_anyi : FnOk l.prog w K mg base L2.CX0 3 f_anyi _ _ _ := ok_anyi F_anyi F_roll G_roll m_roll d_roll F_pick G_pick m_pick d_pick
  have G_word : FnOk l.prog w K mg base L2.CX0 2 f_word _ _ _ := ok_word F_word F_roll G_roll m_roll d_roll B
  have G_lett : FnOk l.prog w K mg base L2.CX0 1 f_lett _ _ _ := ok_lettered F_lett B WD
  have G_mixed : FnOk l.prog w K mg base L2.CX0 2 f_mixed _ _ _ := ok_mixed F_mixed F_roll G_roll m_roll d_roll B WD
  have G_naming : FnOk l.prog w K mg base (L2.CX l.prog w) 3 f_naming _ _ _ := ok_naming F_naming F_names G_names m_names d_names B WD Z
  have G_words : FnG l.prog w K mg base L2.CX0 7 f_words _ _ (spRefused (tabT K c_words c_namr c_fracs c_sums c_refused)) := ok_words C_words F_err m_err d_err F_pick G_pick m_pick d_pick F_roll G_roll m_roll d_roll F_anyi G_anyi m_anyi d_anyi F_word G_word m_word d_word F_lett G_lett m_lett d_lett F_integer G_integer m_integer d_integer F_count G_count m_count d_count F_name G_name m_name d_name F_names G_names m_names d_names F_fracq G_fracq m_fracq d_fracq F_nthn G_nthn m_nthn d_nthn F_nth G_nth m_nth d_nth B WD Z Y T_words (tabT_0) (tabT_u0 u5)
  have G_namr : FnG l.prog w K mg base L2.CX0 7 f_namr _ _ (spRefused (tabT K c_words c_namr c_fracs c_sums c_refused)) := ok_namings C_namr F_err m_err d_err F_pick G_pick m_pick d_pick F_roll G_roll m_roll d_roll F_mixed G_mixed m_mixed d_mixed F_naming G_naming m_naming d_naming B WD Z Y T_namr (tabT_1) (tabT_u1 u5)
  have G_fracs : FnG l.prog w K mg base L2.CX0 7 f_fracs _ _ (spRefused (tabT K c_words c_namr c_fracs c_sums c_refused)) := ok_fracs C_fracs F_err m_err d_err F_pick G_pick m_pick d_pick F_roll G_roll m_roll d_roll F_shared G_shared m_shared d_shared F_frac G_frac m_frac d_frac F_fracq G_fracq m_fracq d_fracq F_value G_value m_value d_value B Z Y T_fracs (tabT_2) (tabT_u2 u5)
  have G_sums : FnG l.prog w K mg base L2.CX0 7 f_sums _ _ (spRefused (tabT K c_words c_namr c_fracs c_sums c_refused)) := ok_sums C_sums F_err m_err d_err F_anyf G_anyf m_anyf d_anyf F_add G_add m_add d_add F_mul G_mul m_mul d_mul F_div G_div m_div d_div F_value G_value m_value d_value B Z Y T_sums (tabT_3) (tabT_u3 u5)
  have G_refused : FnG l.prog w K mg base L2.CX0 7 f_refused _ _ (spRefused (tabT K c_words c_namr c_fracs c_sums c_refused)) := ok_refused C_refused F_err m_err d_err F_pick G_pick m_pick d_pick F_anyf G_anyf m_anyf d_anyf F_add G_add m_add d_add F_mul G_mul m_mul d_mul F_div G_div m_div d_div B Z Y T_refused (tabT_4) (tabT_u4 u5)
  exact ok_law F_law F_dice G_dice m_dice d_dice k_words G_words m_words d_words k_namr G_namr m_namr d_namr k_fracs G_fracs m_fracs d_fracs k_sums G_sums m_sums d_sums k_refused G_refused m_refused d_refused F_integer G_integer m_integer d_integer F_count G_count m_count d_count F_name G_name m_name d_name F_names G_names m_names d_names F_frac G_frac m_frac d_frac F_div G_div m_div d_div F_nthn G_nthn m_nthn d_nthn B WD
end VW
/-! K00Z -/
open PySem PySem.W PyProof.Rows
set_option maxRecDepth 100000 in
set_option maxHeartbeats 0 in
theorem PySem.Challenge.cw_rimtrails_k00_words_and_fractions_holds : PySem.Challenge.rw_rimtrails_k00_words_and_fractions.Holds := by
  w_on; o_law; k_head; (case hw => w_witness2)
  k_fill
  refine VK.walk_ofTG (l := PySem.Challenge.rw_rimtrails_k00_words_and_fractions) (n := 63) (k := 8) (x := "_law_script") rfl (by decide) rfl ⟨rfl, by decide, by decide⟩ (fun w h Y => PySem.W.km_in_of Y) (fun w h Y => PySem.W.km_tabs_of Y) ?F
  case F =>
    intro w mg fa h KX G hmg hx
    refine' VW.all_mk KX G hmg ?a_dice ?l_dice ?c_l_dice ?k_dice ?a_roll ?l_roll ?c_l_roll ?k_roll ?a_pick ?l_pick ?c_l_pick ?k_pick ?a_whole ?l_whole ?c_l_whole ?k_whole ?a_integer ?l_integer ?c_l_integer ?k_integer ?a_count ?l_count ?c_l_count ?k_count ?a_name ?l_name ?c_l_name ?k_name ?a_names ?l_names ?c_l_names ?k_names ?a_nthn ?l_nthn ?c_l_nthn ?k_nthn ?a_fracq ?l_fracq ?c_l_fracq ?k_fracq ?a_low ?l_low ?c_l_low ?k_low ?a_frac ?l_frac ?c_l_frac ?k_frac ?a_check ?l_check ?c_l_check ?k_check ?a_add ?l_add ?c_l_add ?k_add ?a_mul ?l_mul ?c_l_mul ?k_mul ?a_div ?l_div ?c_l_div ?k_div ?a_shared ?l_shared ?c_l_shared ?k_shared ?a_value ?l_value ?c_l_value ?k_value ?a_anyf ?l_anyf ?c_l_anyf ?k_anyf ?a_anyi ?l_anyi ?c_l_anyi ?k_anyi ?a_nth ?l_nth ?c_l_nth ?k_nth ?a_word ?l_word ?c_l_word ?k_word ?a_lett ?l_lett ?c_l_lett ?k_lett ?a_err ?l_err ?c_l_err ?k_err ?a_mixed ?l_mixed ?c_l_mixed ?k_mixed ?a_naming ?l_naming ?c_l_naming ?k_naming ?a_words ?l_words ?c_l_words ?k_words ?a_namr ?l_namr ?c_l_namr ?k_namr ?a_fracs ?l_fracs ?c_l_fracs ?k_fracs ?a_sums ?l_sums ?c_l_sums ?k_sums ?a_refused ?l_refused ?c_l_refused ?k_refused ?a_law ?l_law ?c_l_law ?k_law ?a_g ?a_i ?a_t ?l_g ?c_g ?a_o ?b_n ?b_i ?b_o ?b_e ?b_t ?LL
    (case a_dice => k_is); (case l_dice => k_is); (case c_l_dice => k_is); (case k_dice => k_is); (case a_roll => k_is)
    (case l_roll => k_is); (case c_l_roll => k_is); (case k_roll => k_is); (case a_pick => k_is); (case l_pick => k_is)
    (case c_l_pick => k_is); (case k_pick => k_is); (case a_whole => k_is); (case l_whole => k_is); (case c_l_whole => k_is)
    (case k_whole => k_is); (case a_integer => k_is); (case l_integer => k_is); (case c_l_integer => k_is); (case k_integer => k_is)
    (case a_count => k_is); (case l_count => k_is); (case c_l_count => k_is); (case k_count => k_is); (case a_name => k_is)
    (case l_name => k_is); (case c_l_name => k_is); (case k_name => k_is); (case a_names => k_is); (case l_names => k_is)
    (case c_l_names => k_is); (case k_names => k_is); (case a_nthn => k_is); (case l_nthn => k_is); (case c_l_nthn => k_is)
    (case k_nthn => k_is); (case a_fracq => k_is); (case l_fracq => k_is); (case c_l_fracq => k_is); (case k_fracq => k_is)
    (case a_low => k_is); (case l_low => k_is); (case c_l_low => k_is); (case k_low => k_is); (case a_frac => k_is)
    (case l_frac => k_is); (case c_l_frac => k_is); (case k_frac => k_is); (case a_check => k_is); (case l_check => k_is)
    (case c_l_check => k_is); (case k_check => k_is); (case a_add => k_is); (case l_add => k_is); (case c_l_add => k_is)
    (case k_add => k_is); (case a_mul => k_is); (case l_mul => k_is); (case c_l_mul => k_is); (case k_mul => k_is)
    (case a_div => k_is); (case l_div => k_is); (case c_l_div => k_is); (case k_div => k_is); (case a_shared => k_is)
    (case l_shared => k_is); (case c_l_shared => k_is); (case k_shared => k_is); (case a_value => k_is); (case l_value => k_is)
    (case c_l_value => k_is); (case k_value => k_is); (case a_anyf => k_is); (case l_anyf => k_is); (case c_l_anyf => k_is)
    (case k_anyf => k_is); (case a_anyi => k_is); (case l_anyi => k_is); (case c_l_anyi => k_is); (case k_anyi => k_is)
    (case a_nth => k_is); (case l_nth => k_is); (case c_l_nth => k_is); (case k_nth => k_is); (case a_word => k_is)
    (case l_word => k_is); (case c_l_word => k_is); (case k_word => k_is); (case a_lett => k_is); (case l_lett => k_is)
    (case c_l_lett => k_is); (case k_lett => k_is); (case a_err => k_is); (case l_err => k_is); (case c_l_err => k_is)
    (case k_err => k_is); (case a_mixed => k_is); (case l_mixed => k_is); (case c_l_mixed => k_is); (case k_mixed => k_is)
    (case a_naming => k_is); (case l_naming => k_is); (case c_l_naming => k_is); (case k_naming => k_is); (case a_words => k_is)
    (case l_words => k_is); (case c_l_words => k_is); (case k_words => k_is); (case a_namr => k_is); (case l_namr => k_is)
    (case c_l_namr => k_is); (case k_namr => k_is); (case a_fracs => k_is); (case l_fracs => k_is); (case c_l_fracs => k_is)
    (case k_fracs => k_is); (case a_sums => k_is); (case l_sums => k_is); (case c_l_sums => k_is); (case k_sums => k_is)
    (case a_refused => k_is); (case l_refused => k_is); (case c_l_refused => k_is); (case k_refused => k_is); (case a_law => k_is)
    (case l_law => k_is); (case c_l_law => k_is); (case k_law => k_is); (case a_g => k_is); (case a_i => k_is)
    (case a_t => k_is); (case l_g => k_is); (case c_g => k_is); (case a_o => k_is)
    (case b_n => kernel_rfl)
    (case b_i => kernel_rfl)
    (case b_o => kernel_rfl)
    (case b_e => kernel_rfl)
    (case b_t => kernel_rfl)
    (case LL =>
      obtain ⟨v, e, r⟩ := hx.2.val _ List.mem_cons_self
      cases r
      exact ⟨_, e⟩)
