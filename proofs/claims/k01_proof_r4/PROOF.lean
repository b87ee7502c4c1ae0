import PyProof.Rows.All
import Wide.All
import OpenK.AllK
import Wide.FinOn
import PySem.Challenge.RW_rimtrails_k01_errors_and_what_they_keep
import HandS.Base
import HandS.Call
import HandS.List
import HandS.Ends
import HandS.Words
import HandS.WordsList
import HandS.Wide
import PyProof.ReprRoads
import HandS.Dict
import HandS.Exc
import KE.KExcInit
import KE.KTryMore
import HandS.ExcOwn
import HandS.ExcIs
import HandS.ExcField
import PyProof.StrBlock2
import KE.KIsAll
import HandS.ExcValue
import HandS.IsInst
import HandS.HotCalls
import PyProof.ExcClass
import PyProof.InstStore
import HandS.ForExc
import HandS.Comp
import HandS.Style
import PyProof.ReprLen
import HandS.Iter
import HandS.Walk
import HandS.DeepEq
set_option Elab.async false
set_option linter.all false
/-! K01A -/
set_option maxRecDepth 100000
set_option maxHeartbeats 4000000
namespace VK
open PySem L2
def topS (i : Nat) : Stmt := PySem.Challenge.pw_rimtrails_k01_errors_and_what_they_keep.main.body.getD i (.Pass ⟨0, 0, 0, 0⟩)
abbrev sdice : Stmt := topS 22
abbrev sroll : Stmt := topS 23
abbrev spick : Stmt := topS 24
theorem scdice : FnScope ["_law_script", "_law_spot", "_law_cell", "_law_left"] ["_law_script", "_law_spot"] (defScope sdice) := ⟨rfl, rfl, rfl, by decide +kernel, rfl, by decide +kernel, by decide +kernel⟩
theorem scroll : FnScope ["_law_dice_here", "_law_total", "_law_found", "_law_one", "_law_two"] ["_law_dice_here", "_law_total"] (defScope sroll) := ⟨rfl, rfl, rfl, by decide +kernel, rfl, by decide +kernel, by decide +kernel⟩
theorem scpick : FnScope ["_law_dice_here", "_law_items"] ["_law_dice_here", "_law_items"] (defScope spick) := ⟨rfl, rfl, rfl, by decide +kernel, rfl, by decide +kernel, by decide +kernel⟩
/-- three ints stand at d -/
def Dice (H : Hp) (d : Addr) : Prop := ∃ a b c : Int, H d = some (.lst [.int a, .int b, .int c])
/-- all that is tracked stays, but for the dice at d -/
def Rolled (d : Addr) (H H' : Hp) : Prop := ∃ a b c : Int, H' = upd H d (.lst [.int a, .int b, .int c])
def spDice (K : PySem.W.Frag) : Sp := fun vs H Q _ => ∃ (s : Addr) (ns : List Int) (j : Nat), vs = [.ref s, .int j] ∧ SqL K H s (ns.map V.int) ∧ ∀ p (a b c : Int), H p = none → Q (.ref p) (upd H p (.lst [.int a, .int b, .int c]))
def spRoll : Sp := fun vs H Q _ => ∃ (d : Addr) (n : Nat), vs = [.ref d, .int n] ∧ 0 < n ∧ n < 1000000 ∧ Dice H d ∧ ∀ (r : Nat) H', r < n → Rolled d H H' → Q (.int r) H'
def spPick : Sp := fun vs H Q _ => ∃ (d l : Addr) (xs : List V), vs = [.ref d, .ref l] ∧ 0 < xs.length ∧ xs.length < 1000000 ∧ Dice H d ∧ H l = some (.lst xs) ∧ d ≠ l ∧ ∀ v H', v ∈ xs → Rolled d H H' → Q v H'
structure Blt (mg : Str → Option Value) : Prop where
  n_len : mg "len" = none
  n_int : mg "int" = none
  n_max : mg "max" = none
  n_min : mg "min" = none
  n_abs : mg "abs" = none
  n_range : mg "range" = none
  n_repr : mg "repr" = none
  n_isinstance : mg "isinstance" = none
section
variable {P : Program} {w : World} {K : PySem.W.Frag} {mg : Str → Option Value} {base : Heap}
theorem ok_dice {f : Addr} {fd : FuncData} (F : Fun K "_law_dice" "_law_dice" sdice f fd) (T : Blt mg) : FnOk P w K mg base CX0 1 f fd ["_law_script", "_law_spot"] (spDice K) := by
  refine F.ok scdice (fun vs H Q E h => ?_) (fun cdv A outer s H vs Q E hr h => ?_)
  · obtain ⟨s, ns, j, rfl, _⟩ := h
    rfl
  · obtain ⟨sc, ns, j, rfl, hs, k⟩ := h
    refine ⟨_, (pss_cons (ps_set (i := 2) scdice.nd rfl (Or.inl rfl) (pe_ifExp (pt_cmpR op_lt (pv 1) (pe_callB call_len_seq (by rfl) T.n_len (by decide +kernel) (pa_cons (pv 0) pa_nil)) (nomark _)) (pe_callTy call_int1 (by rfl) T.n_int (by decide +kernel) (pa_cons (pe_ix ix_list (pv 0) (pv 1) (fun _ _ => rfl)) pa_nil)) (pe_op op_add (pe_op op_mul pe_int (pv 1)) pe_int)))
      (pss_cons (ps_set (i := 3) scdice.nd rfl (Or.inl rfl) (pe_op op_mod (pe_callB (call_max2 rfl) (by rfl) T.n_max (by decide +kernel) (pa_cons pe_int (pa_cons (pe_op op_sub (pe_callB call_abs (by rfl) T.n_abs (by decide +kernel) (pa_cons (pv 2) pa_nil)) (pe_op op_pow pe_int pe_int)) pa_nil))) (pe_op op_mulW (pe_op op_pow pe_int pe_int) (pe_op op_pow pe_int pe_int))))
      (pss_one (ps_ret (pe_lst (pa_cons (pv 3) (pa_cons (pe_op op_add (pe_op op_add (pe_op op_add (pe_op op_mul (pe_op op_mod (pe_callB call_abs (by rfl) T.n_abs (by decide +kernel) (pa_cons (pv 2) pa_nil)) pe_int) pe_int) (pe_op op_mul pe_int (pv 1))) (pe_op op_mul pe_int (pe_callTy call_int1 (by rfl) T.n_int (by decide +kernel) (pa_cons (pe_cmpR op_lt (pv 2) pe_int (nomark _)) pa_nil)))) pe_int) (pa_cons pe_int pa_nil)))))))), ?_⟩
    have pw16 : CPow 10 16 := ⟨by decide, by decide, by decide⟩
    have pw60 : CPow 10 60 := ⟨by decide, by decide, by decide⟩
    have big : CMulW ((10 : Int) ^ (60 : Int).toNat) ((10 : Int) ^ (60 : Int).toNat) := wide_mul (a := 200) (b := 200) (by decide +kernel) (by decide +kernel) (by decide) (by decide) (by decide)
    have pos : (0 : Int) < ((10 : Int) ^ (60 : Int).toNat) * ((10 : Int) ^ (60 : Int).toNat) := by decide +kernel
    refine ⟨_, rfl, _, rfl, sc, _, rfl, .inl hs, _, _, rfl, rfl, _, rfl, ?_⟩
    refine ite2 (fun hc => ?_) (fun hc => ?_)
    · have hj : j < ns.length := by
        have := of_decide_eq_true hc
        rw [List.length_map] at this
        omega
      refine ⟨_, rfl, _, rfl, sc, _, _, V.int ns[j], rfl, rfl, hs, atI_nat (by rw [List.getElem?_map, List.getElem?_eq_getElem hj]; rfl), .inl ⟨_, rfl, ?_⟩⟩
      refine ⟨_, rfl, _, rfl, _, _, rfl, rfl, pw16, _, _, rfl, rfl, _, _, rfl, _, _, rfl, rfl, pw60, _, _, rfl, rfl, pw60, _, _, rfl, rfl, big, _, _, rfl, rfl, pos, ?_⟩
      refine ⟨_, rfl, _, rfl, _, rfl, _, _, rfl, rfl, (by show (0 : Int) < 1152921504606846869; decide), _, _, rfl, rfl, .inr ⟨by decide, by decide⟩, _, rfl, _, _, rfl, rfl, .inl ⟨by decide, by decide⟩, _, _, rfl, rfl, _, rfl, _, _, rfl, rfl, .inr ⟨_, rfl, _, _, rfl, rfl, .inl ⟨by decide, by decide⟩, _, _, rfl, rfl, _, _, rfl, rfl, (by show 3 ≤ sizeLine; decide), fun p hp => k p _ _ _ hp⟩⟩
    · refine ⟨_, rfl, _, _, rfl, rfl, .inl ⟨by decide, by decide⟩, _, _, rfl, rfl, ?_⟩
      refine ⟨_, rfl, _, rfl, _, _, rfl, rfl, pw16, _, _, rfl, rfl, _, _, rfl, _, _, rfl, rfl, pw60, _, _, rfl, rfl, pw60, _, _, rfl, rfl, big, _, _, rfl, rfl, pos, ?_⟩
      refine ⟨_, rfl, _, rfl, _, rfl, _, _, rfl, rfl, (by show (0 : Int) < 1152921504606846869; decide), _, _, rfl, rfl, .inr ⟨by decide, by decide⟩, _, rfl, _, _, rfl, rfl, .inl ⟨by decide, by decide⟩, _, _, rfl, rfl, _, rfl, _, _, rfl, rfl, .inr ⟨_, rfl, _, _, rfl, rfl, .inl ⟨by decide, by decide⟩, _, _, rfl, rfl, _, _, rfl, rfl, (by show 3 ≤ sizeLine; decide), fun p hp => k p _ _ _ hp⟩⟩
theorem dice_len {H : Hp} {d : Addr} {a b c : Int} (h : H d = some (.lst [.int a, .int b, .int c])) : SqL K H d [.int a, .int b, .int c] := SqL.of h
theorem ok_roll {f : Addr} {fd : FuncData} (F : Fun K "_law_roll" "_law_roll" sroll f fd) (T : Blt mg) : FnOk P w K mg base CX0 1 f fd ["_law_dice_here", "_law_total"] spRoll := by
  refine F.ok scroll (fun vs H Q E h => ?_) (fun cdv A outer s H vs Q E hr h => ?_)
  · obtain ⟨d, n, rfl, _⟩ := h
    rfl
  · obtain ⟨d, n, rfl, n0, n1, ⟨a, b, c, hd⟩, k⟩ := h
    refine ⟨_, (pss_cons (ps_if (pt_cmpR op_gt (pe_ix ix_list (pv 0) pe_int (fun _ _ => rfl)) pe_int (nomark _)) (pss_cons (ps_set (i := 2) scroll.nd rfl (Or.inl rfl) (pe_op op_mod (pe_callTy call_int1 (by rfl) T.n_int (by decide +kernel) (pa_cons (pe_ix ix_list (pv 0) pe_int (fun _ _ => rfl)) pa_nil)) (pv 1)))
      (pss_cons (ps_asg (pe_op op_fdiv (pe_ix ix_list (pv 0) pe_int (fun _ _ => rfl)) (pv 1)) (pg_sub (pv 0) pe_int set_list))
      (pss_one (ps_ret (pv 2))))) pss_nil)
      (pss_cons (ps_asg (pe_op op_add (pe_ix ix_list (pv 0) pe_int (fun _ _ => rfl)) pe_int) (pg_sub (pv 0) pe_int set_list))
      (pss_cons (ps_set (i := 3) scroll.nd rfl (Or.inl rfl) (pe_op op_mod (pe_callTy call_int1 (by rfl) T.n_int (by decide +kernel) (pa_cons (pe_op op_add (pe_ix ix_list (pv 0) pe_int (fun _ _ => rfl)) (pe_op op_mul pe_int (pe_ix ix_list (pv 0) pe_int (fun _ _ => rfl)))) pa_nil)) pe_int))
      (pss_cons (ps_set (i := 4) scroll.nd rfl (Or.inl rfl) (pe_op op_add (pe_op op_mul (pe_op op_mod (pe_callTy call_int1 (by rfl) T.n_int (by decide +kernel) (pa_cons (pe_op op_add (pe_op op_mul (pv 3) (pv 3)) (pe_op op_mul pe_int (pe_ix ix_list (pv 0) pe_int (fun _ _ => rfl)))) pa_nil)) pe_int) pe_int) (pv 3)))
      (pss_one (ps_ret (pe_op op_mod (pe_callTy call_int1 (by rfl) T.n_int (by decide +kernel) (pa_cons (pe_op op_fdiv (pv 4) pe_int) pa_nil)) (pv 1)))))))), ?_⟩
    have npos : (0 : Int) < (n : Int) := by omega
    have fin : ∀ z : Int, ∃ r : Nat, r < n ∧ z % (n : Int) = (r : Int) := fun z => by
      have h1 := Int.emod_nonneg z (b := (n : Int)) (by omega)
      have h2 := Int.emod_lt_of_pos z npos
      exact ⟨(z % (n : Int)).toNat, by omega, by omega⟩
    refine ⟨_, rfl, d, _, _, V.int a, rfl, rfl, SqL.of hd, atI_nat (j := 0) rfl, _, _, rfl, rfl, _, rfl, ?_⟩
    refine ite2 (fun hc => ?_) (fun hc => ?_)
    · refine ⟨_, rfl, d, _, _, V.int a, rfl, rfl, SqL.of hd, atI_nat (j := 0) rfl, .inl ⟨_, rfl, _, rfl, _, _, rfl, rfl, npos, ?_⟩⟩
      refine ⟨_, rfl, d, _, _, V.int a, rfl, rfl, SqL.of hd, atI_nat (j := 0) rfl, _, rfl, _, _, rfl, rfl, ⟨npos, by omega⟩, _, rfl, d, _, _, 0, rfl, rfl, hd, rfl, _, rfl, ?_⟩
      obtain ⟨r, h1, er⟩ := fin a
      have q := k r _ h1 ⟨a / (n : Int), b, c, rfl⟩
      rw [← er] at q
      exact q
    · have hd1 : ∀ z, (upd H d (HO.lst [V.int a, V.int b, V.int z])) d = some (HO.lst [V.int a, V.int b, V.int z]) := fun z => upd_same
      have small : ∀ x : Int, -(2 ^ 64) < x % 2305843009213693669 ∧ x % 2305843009213693669 < 2 ^ 64 := fun x => by
        have h1 := Int.emod_nonneg x (b := 2305843009213693669) (by decide)
        have h2 := Int.emod_lt_of_pos x (b := 2305843009213693669) (by decide)
        omega
      refine ⟨_, rfl, d, _, _, V.int c, rfl, rfl, SqL.of hd, atI_nat (j := 2) rfl, _, _, rfl, rfl, _, rfl, d, _, _, 2, rfl, rfl, hd, rfl, ?_⟩
      refine ⟨_, rfl, d, _, _, V.int b, rfl, rfl, SqL.of (hd1 _), atI_nat (j := 1) rfl, _, rfl, d, _, _, V.int (c + 1), rfl, rfl, SqL.of (hd1 _), atI_nat (j := 2) rfl, _, _, rfl, rfl, .inl ⟨by decide, by decide⟩, _, _, rfl, rfl, .inl ⟨_, rfl, _, _, rfl, rfl, (by show (0 : Int) < 2305843009213693669; decide), ?_⟩⟩
      refine ⟨_, rfl, _, rfl, _, _, rfl, rfl, .inl (small _), _, rfl, d, _, _, V.int (c + 1), rfl, rfl, SqL.of (hd1 _), atI_nat (j := 2) rfl, _, _, rfl, rfl, .inl ⟨by decide, by decide⟩, _, _, rfl, rfl, .inl ⟨_, rfl, _, _, rfl, rfl, (by show (0 : Int) < 2305843009213693907; decide), _, _, rfl, rfl, .inr ⟨by decide, by decide⟩, _, rfl, _, _, rfl, rfl, ?_⟩⟩
      refine ⟨_, rfl, _, _, rfl, rfl, ⟨by decide, by decide⟩, .inl ⟨_, rfl, _, rfl, _, _, rfl, rfl, npos, ?_⟩⟩
      obtain ⟨r, h1, er⟩ := fin _
      have q := k r _ h1 ⟨a, b, c + 1, rfl⟩
      rw [← er] at q
      exact q
theorem ok_pick {f fR : Addr} {fd fdR : FuncData} (F : Fun K "_law_pick" "_law_pick" spick f fd) (T : Blt mg) (FR : Fun K "_law_roll" "_law_roll" sroll fR fdR) (gR : mg "_law_roll" = some (.ref fR)) (bR : Binds K fdR ["_law_dice_here", "_law_total"] []) :
    FnOk P w K mg base CX0 2 f fd ["_law_dice_here", "_law_items"] spPick := by
  have GR : FnOk P w K mg base CX0 1 fR fdR ["_law_dice_here", "_law_total"] spRoll := ok_roll FR T
  refine F.ok scpick (fun vs H Q E h => ?_) (fun cdv A outer s H vs Q E hr h => ?_)
  · obtain ⟨d, l, xs, rfl, _⟩ := h
    rfl
  · obtain ⟨d, l, xs, rfl, l0, l1, D, hl, dl, k⟩ := h
    refine ⟨_, (pss_one (ps_ret (pe_ix ix_list (pv 1) (pe_call GR hr rfl gR FR.kp bR .nil pass0 (pa_cons (pv 0) (pa_cons (pe_callB call_len_seq (by rfl) T.n_len (by decide +kernel) (pa_cons (pv 1) pa_nil)) pa_nil))) (fun _ _ => rfl)))), ?_⟩
    refine ⟨_, rfl, _, rfl, _, rfl, l, _, rfl, .inl (SqL.of hl), d, xs.length, rfl, l0, l1, D, fun r H' hr' R => ?_⟩
    obtain ⟨a, b, c, rfl⟩ := id R
    refine ⟨l, xs, _, xs[r], rfl, rfl, SqL.of (by rw [upd_ne dl.symm]; exact hl), atI_nat (List.getElem?_eq_getElem hr'), ?_⟩
    exact k _ _ (List.getElem_mem hr') R
end
end VK
/-! VRepr -/
set_option maxRecDepth 100000
set_option maxHeartbeats 2000000
/-! repr of data of any depth, dicts among it, where no repr is under way -/
namespace VK
open PySem PySem.Spec PyProof.Rows L2
def keyD : Key → PyData
  | .inl i => .int i
  | .inr x => .str x
mutual
/-- v is data d, by what is tracked -/
inductive DR (K : PySem.W.Frag) (H : Hp) : V → PyData → Prop
  | non : DR K H .non .none
  | bl (b : Bool) : DR K H (.bl b) (.bool b)
  | int (i : Int) : DR K H (.int i) (.int i)
  | str (x : Str) : DR K H (.str x) (.str x)
  | lst {a : Addr} {xs : List V} {ds : List PyData} : SqL K H a xs → DRs K H xs ds → DR K H (.ref a) (.list ds)
  | tup {a : Addr} {xs : List V} {ds : List PyData} : SqT K H a xs → DRs K H xs ds → DR K H (.ref a) (.tuple ds)
  | dic {a : Addr} {kvs : List (Key × V)} {ds : List PyData} : H a = some (.dK kvs) → DRs K H (kvs.map (·.2)) ds → DR K H (.ref a) (.dict ((kvs.map fun p => keyD p.1).zip ds))
inductive DRs (K : PySem.W.Frag) (H : Hp) : List V → List PyData → Prop
  | nil : DRs K H [] []
  | cons {v : V} {vs : List V} {d : PyData} {ds : List PyData} : DR K H v d → DRs K H vs ds → DRs K H (v :: vs) (d :: ds)
end
theorem DRs.len {K : PySem.W.Frag} {H : Hp} : ∀ {vs : List V} {ds : List PyData}, DRs K H vs ds → vs.length = ds.length
  | _, _, .nil => rfl
  | _, _, .cons _ r => by simp [DRs.len r]
theorem zip_fst {α β : Type} : ∀ {l : List α} {r : List β}, l.length = r.length → (l.zip r).map (·.1) = l
  | [], [], _ => rfl
  | _ :: l, _ :: r, h => by
    have z := zip_fst (l := l) (r := r) (by simpa using h)
    simp [z]
theorem zip_snd {α β : Type} : ∀ {l : List α} {r : List β}, l.length = r.length → (l.zip r).map (·.2) = r
  | [], [], _ => rfl
  | _ :: l, _ :: r, h => by
    have z := zip_snd (l := l) (r := r) (by simpa using h)
    simp [z]
section
variable {prog : Program} {w : World} {h : Heap}
/-- what a dict's keys and values read as -/
theorem pairs_keys : ∀ {es : List DictEntry} {vs : List (Key × Value)} {kvs : List (Key × V)}, Pairs (mixKind prog w) es vs → KV kvs vs →
    ReadsAll h (es.map (·.key)) (kvs.map fun p => keyD p.1) [] ∧ Vals (kvs.map (·.2)) (es.map (·.val)) := by
  intro es vs kvs hp
  induction hp generalizing kvs with
  | nil =>
    intro r
    cases r
    exact ⟨.nil, .nil⟩
  | @cons e kv es' vs' hk hv hp' ih =>
    intro r
    cases r with
    | @cons p _ l _ rr rt =>
      obtain ⟨k, v⟩ := p
      obtain ⟨k', v'⟩ := kv
      obtain ⟨e1, rv⟩ := rr
      simp only at e1 rv hv
      subst e1
      obtain ⟨h1, h2⟩ := ih rt
      have hkey : Reads h e.key (keyD k) [] := by
        rcases keyIs_shape (show keyIs k e.key = true from hk) with ⟨i, t, rfl, q⟩ | ⟨x, t, rfl, q⟩
        · rw [q]
          exact Reads.int i t
        · rw [q]
          exact Reads.str x t
      refine ⟨by simpa using ReadsAll.cons hkey h1, ?_⟩
      show Vals (v :: _) (e.val :: _)
      rw [hv]
      exact .cons rv h2
end
section
variable {X : Cx} {pins : List (Addr × Obj)} {σ : L2.St} {H : Hp} {s : Shared}
mutual
/-- a tracked datum is shown by the library's own repr of a part, at any guards that are clear of its addresses -/
theorem dr_shows (I : Inv X pins σ H s) : ∀ {v : V} {d : PyData}, DR X.K H v d → ∀ {u : Value}, RelV v u → d.showable = true → d.shown.length ≤ sizeLine →
    ∃ as bs, Reads s.heap u d as ∧ ReadAtMost s.heap d.depth bs ∧ ReprK X.prog X.w bs s.heap d.depth u d.shown
  | _, _, .non, _, r, _, _ => by
    cases r
    exact ⟨_, [], Reads.none, fun _ m => (nomatch m), by simp only [PyData.shown]; exact .of_is ReprIs.none _ _ _⟩
  | _, _, .bl b, _, r, _, _ => by
    cases r
    exact ⟨_, [], Reads.bool b, fun _ m => (nomatch m), by simp only [PyData.shown]; exact .of_is (ReprIs.bool b) _ _ _⟩
  | _, _, .int i, _, r, sh, _ => by
    obtain ⟨t, rfl⟩ := r
    exact ⟨_, [], Reads.int i t, fun _ m => (nomatch m), by simp only [PyData.shown]; exact .of_is (ReprIs.int t (by simpa [PyData.showable] using sh)) _ _ _⟩
  | _, _, .str x, _, r, _, z => by
    obtain ⟨t, rfl⟩ := r
    exact ⟨_, [], Reads.str x t, fun _ m => (nomatch m), by simp only [PyData.shown]; exact .of_is (ReprIs.str x t (by simpa only [PyData.shown] using z)) _ _ _⟩
  | _, _, .lst (a := a) (ds := ds) hs ha, _, r, sh, z => by
      cases r
      have z1 : (listText (PyData.shownAll ds)).length ≤ sizeLine := by simpa only [PyData.shown] using z
      obtain ⟨its, rv, ⟨o, n, ho, hc, _, hd⟩, _⟩ := I.list hs
      obtain ⟨as, bs, ra, rb, rk⟩ := drs_show I ha rv (by simpa [PyData.showable] using sh) (fun t m => Nat.le_trans (listText_mem_le m) z1)
      have rd : Reads s.heap (.ref a) (.list ds) _ := Reads.list ho hc hd ra
      have far : a ∉ bs := not_mem_of_deeper rd (by simp only [PyData.depth]; omega) rb
      refine ⟨_, a :: bs, rd, ReadAtMost.cons rd (by simp only [PyData.depth]; omega) rb, ?_⟩
      simp only [PyData.depth, PyData.shown]
      cases its with
      | nil =>
        cases ra
        simp only [PyData.shownAll, listText_nil]
        exact ReprK.listEmpty ho hc hd
      | cons y ys => exact ReprK.list ho hc hd far (by simpa using rk.length_eq) (fun i y e => rk.item i y (by simpa using e))
  | _, _, .tup (a := a) (ds := ds) hs ha, _, r, sh, z => by
      cases r
      have z1 : (tupleText (PyData.shownAll ds)).length ≤ sizeLine := by simpa only [PyData.shown] using z
      obtain ⟨its, rv, ⟨o, ho, hc, n, hd⟩, _⟩ := I.tuple hs
      obtain ⟨as, bs, ra, rb, rk⟩ := drs_show I ha rv (by simpa [PyData.showable] using sh) (fun t m => Nat.le_trans (tupleText_mem_le m) z1)
      have rd : Reads s.heap (.ref a) (.tuple ds) _ := Reads.tuple ho hc hd ra
      have far : a ∉ bs := not_mem_of_deeper rd (by simp only [PyData.depth]; omega) rb
      refine ⟨_, a :: bs, rd, ReadAtMost.cons rd (by simp only [PyData.depth]; omega) rb, ?_⟩
      simp only [PyData.depth, PyData.shown]
      exact ReprK.tuple ho hc hd far (by simpa using rk)
  | _, _, .dic (a := a) (kvs := kvs) (ds := ds) hs ha, _, r, sh, z => by
      cases r
      obtain ⟨_, hsys, vs, kv, o, es, ep, ho, hx, hd, _, hp, _⟩ := (show ObjOk X.prog X.w H s.heap a (.dK kvs) from I.hok a _ hs)
      have ln : (kvs.map fun p => keyD p.1).length = ds.length := by
        have := ha.len
        simpa using this
      obtain ⟨rk0, rv⟩ := pairs_keys (h := s.heap) hp kv
      have z1 : (dictText (PyData.shownKv ((kvs.map fun p => keyD p.1).zip ds))).length ≤ sizeLine := by simpa only [PyData.shown] using z
      obtain ⟨s1, s2⟩ := PyData.showableKv_split _ (by simpa [PyData.showable] using sh)
      rw [zip_fst ln] at s1
      rw [zip_snd ln] at s2
      have hv : ∀ t ∈ PyData.shownAll ds, t.length ≤ sizeLine := fun t m => by
        rw [← zip_snd ln] at m
        obtain ⟨p, h1, h2⟩ := PyData.shownKv_val_le _ t m
        exact Nat.le_trans h2 (Nat.le_trans (dictText_mem_le h1) z1)
      obtain ⟨as, bs, ra, rb, rk⟩ := drs_show I ha rv s2 hv
      obtain ⟨b1, hb1, k1⟩ := ReprAllK.of_readsAll (prog := X.prog) (w := X.w) rk0 s1 (fun _ m => (nomatch m)) (fun t m => by
        rw [← zip_fst ln] at m
        obtain ⟨p, h1, h2⟩ := PyData.shownKv_key_le _ t m
        exact Nat.le_trans h2 (Nat.le_trans (dictText_mem_le h1) z1))
      have d1 : PyData.depthAll (kvs.map fun p => keyD p.1) ≤ PyData.depthKv ((kvs.map fun p => keyD p.1).zip ds) := by
        have := PyData.depthAll_keys_le ((kvs.map fun p => keyD p.1).zip ds)
        rw [zip_fst ln] at this
        exact this
      have d2 : PyData.depthAll ds ≤ PyData.depthKv ((kvs.map fun p => keyD p.1).zip ds) := by
        have := PyData.depthAll_vals_le ((kvs.map fun p => keyD p.1).zip ds)
        rw [zip_snd ln] at this
        exact this
      have rd : Reads s.heap (.ref a) (.dict ((kvs.map fun p => keyD p.1).zip ds)) _ := Reads.dict ho hx.1 hd (by rw [zip_fst ln]; exact rk0) (by rw [zip_snd ln]; exact ra)
      have hb := (hb1.mono d1).append (rb.mono d2)
      have far : a ∉ b1 ++ bs := not_mem_of_deeper rd (by simp only [PyData.depth]; omega) hb
      refine ⟨_, a :: (b1 ++ bs), rd, ReadAtMost.cons rd (by simp only [PyData.depth]; omega) hb, ?_⟩
      have e := ReprEntriesK.of_two es.toList _ _ (k1.more_le (fun b m => List.mem_append_left _ m) d1) (rk.more_le (fun b m => List.mem_append_right _ m) d2)
      simp only [PyData.depth, PyData.shown, PyData.shownKv_eq, zip_fst ln, zip_snd ln]
      exact ReprK.dict ho hx.1 hd hsys far e
theorem drs_show (I : Inv X pins σ H s) : ∀ {vs : List V} {ds : List PyData}, DRs X.K H vs ds → ∀ {us : List Value}, Vals vs us → PyData.showableAll ds = true → (∀ t ∈ PyData.shownAll ds, t.length ≤ sizeLine) →
    ∃ as bs, ReadsAll s.heap us ds as ∧ ReadAtMost s.heap (PyData.depthAll ds) bs ∧ ReprAllK X.prog X.w bs s.heap (PyData.depthAll ds) us (PyData.shownAll ds)
  | _, _, .nil, _, r, _, _ => by
    cases r
    exact ⟨_, [], ReadsAll.nil, fun _ m => (nomatch m), by simp only [PyData.shownAll]; exact .nil⟩
  | _, _, .cons (d := d) (ds := ds) q1 q2, _, r, sh, z => by
      cases r with
      | cons r1 r2 =>
        have sh' : d.showable = true ∧ PyData.showableAll ds = true := by simpa [PyData.showableAll] using sh
        obtain ⟨as, bs, ra, rb, rk⟩ := dr_shows I q1 r1 sh'.1 (z _ (by simp only [PyData.shownAll]; exact List.mem_cons_self ..))
        obtain ⟨as', bs', ra', rb', rk'⟩ := drs_show I q2 r2 sh'.2 (fun t m => z t (by simp only [PyData.shownAll]; exact List.mem_cons_of_mem _ m))
        refine ⟨_, bs ++ bs', ReadsAll.cons ra ra', (rb.mono (by simp only [PyData.depthAll]; omega)).append (rb'.mono (by simp only [PyData.depthAll]; omega)), ?_⟩
        simp only [PyData.depthAll, PyData.shownAll]
        exact .cons ((rk.more fun b m => List.mem_append_left _ m).level_le (by omega)) (rk'.more_le (fun b m => List.mem_append_right _ m) (by omega))
end
end
section
variable {X : Cx} {pins : List (Addr × Obj)} {σ : L2.St} {H : Hp} {s : Shared}
/-- the parts of a shown dict -/
theorem showsD (I : Inv X pins σ H s) {a : Addr} {kvs : List (Key × V)} {ds : List PyData} (hs : H a = some (.dK kvs)) (ha : DRs X.K H (kvs.map (·.2)) ds) (sh : (PyData.dict ((kvs.map fun p => keyD p.1).zip ds)).showable = true)
    (z : (PyData.dict ((kvs.map fun p => keyD p.1).zip ds)).shown.length ≤ sizeLine) :
    ∃ o es n, s.heap.get? a = some o ∧ o.cls = .type "dict" ∧ o.data = .dict es n ∧ (a == sysModules) = false ∧ ∃ bs, a ∉ bs ∧
      ReprEntriesK X.prog X.w bs s.heap (PyData.depthKv ((kvs.map fun p => keyD p.1).zip ds)) es.toList (PyData.shownKv ((kvs.map fun p => keyD p.1).zip ds)) := by
  obtain ⟨_, hsys, vs, kv, o, es, ep, ho, hx, hd, _, hp, _⟩ := (show ObjOk X.prog X.w H s.heap a (.dK kvs) from I.hok a _ hs)
  have ln : (kvs.map fun p => keyD p.1).length = ds.length := by
    have := ha.len
    simpa using this
  obtain ⟨rk0, rv⟩ := pairs_keys (h := s.heap) hp kv
  have z1 : (dictText (PyData.shownKv ((kvs.map fun p => keyD p.1).zip ds))).length ≤ sizeLine := by simpa only [PyData.shown] using z
  obtain ⟨s1, s2⟩ := PyData.showableKv_split _ (by simpa [PyData.showable] using sh)
  rw [zip_fst ln] at s1
  rw [zip_snd ln] at s2
  obtain ⟨as, bs, ra, rb, rk⟩ := drs_show I ha rv s2 (fun t m => by
    rw [← zip_snd ln] at m
    obtain ⟨p, h1, h2⟩ := PyData.shownKv_val_le _ t m
    exact Nat.le_trans h2 (Nat.le_trans (dictText_mem_le h1) z1))
  obtain ⟨b1, hb1, k1⟩ := ReprAllK.of_readsAll (prog := X.prog) (w := X.w) rk0 s1 (fun _ m => (nomatch m)) (fun t m => by
    rw [← zip_fst ln] at m
    obtain ⟨p, h1, h2⟩ := PyData.shownKv_key_le _ t m
    exact Nat.le_trans h2 (Nat.le_trans (dictText_mem_le h1) z1))
  have d1 : PyData.depthAll (kvs.map fun p => keyD p.1) ≤ PyData.depthKv ((kvs.map fun p => keyD p.1).zip ds) := by
    have := PyData.depthAll_keys_le ((kvs.map fun p => keyD p.1).zip ds)
    rw [zip_fst ln] at this
    exact this
  have d2 : PyData.depthAll ds ≤ PyData.depthKv ((kvs.map fun p => keyD p.1).zip ds) := by
    have := PyData.depthAll_vals_le ((kvs.map fun p => keyD p.1).zip ds)
    rw [zip_snd ln] at this
    exact this
  have rd : Reads s.heap (.ref a) (.dict ((kvs.map fun p => keyD p.1).zip ds)) _ := Reads.dict ho hx.1 hd (by rw [zip_fst ln]; exact rk0) (by rw [zip_snd ln]; exact ra)
  have hb := (hb1.mono d1).append (rb.mono d2)
  have far : a ∉ b1 ++ bs := not_mem_of_deeper rd (by simp only [PyData.depth]; omega) hb
  have e := ReprEntriesK.of_two es.toList _ _ (k1.more_le (fun b m => List.mem_append_left _ m) d1) (rk.more_le (fun b m => List.mem_append_right _ m) d2)
  refine ⟨o, es, ep, ho, hx.1, hd, hsys, b1 ++ bs, far, ?_⟩
  rw [PyData.shownKv_eq, zip_fst ln, zip_snd ln]
  exact e
end
/-- repr(v), v a tracked datum, nothing being shown around -/
def rRepr (K : PySem.W.Frag) : List V → Hp → VK → Prop := fun xs H Q => ∃ v d, xs = [v] ∧ DR K H v d ∧ d.showable = true ∧ d.depth ≤ 60 ∧ d.shown.length ≤ sizeLine ∧ Q (.str d.shown) H
section
variable {X : Cx}
theorem call_reprD (hg : X.A.guards = some []) (hu : X.A.units + 64 < cLine) : CallR X (.builtin "repr") (rRepr X.K) := by
  intro pins s σ H xs us Q I r q
  obtain ⟨v, d, rfl, hd, sh, dp, z, q⟩ := q
  obtain ⟨u, rfl, r1⟩ := vals1 r
  have lid : X.A.in1.guards = some [] := hg
  have same : ∀ b o, s.heap.get? b = some o → s.heap.get? b = some o := fun _ _ e => e
  have done : ∀ (x : Str) (h' : Heap) (t : Tok) (tk : Nat), (∀ b o, s.heap.get? b = some o → h'.get? b = some o) → Q (.str x) H → EP X pins σ Q (.str x t) { s with heap := h', toks := tk } := fun x h' t tk k q =>
    ⟨.str x, H, I.kept (h' := h') (t' := tk) k, ⟨t, rfl⟩, q⟩
  cases hd with
  | non =>
    cases r1
    exact PySem.P.repr_of_none (done _ s.heap _ _ same q)
  | bl b =>
    cases r1
    exact PySem.P.repr_of_bool (done _ s.heap _ _ same q)
  | int i =>
    obtain ⟨t, rfl⟩ := r1
    exact PySem.P.repr_of_int (by simpa [PyData.showable] using sh) (done _ s.heap _ _ same q)
  | str x =>
    obtain ⟨t, rfl⟩ := r1
    exact PySem.P.repr_of_str (done _ s.heap _ _ same (by simpa only [PyData.shown] using q)) (by simpa only [PyData.shown] using z)
  | @lst a xs ds hs ha =>
    cases r1
    have z1 : (listText (PyData.shownAll ds)).length ≤ sizeLine := by simpa only [PyData.shown] using z
    obtain ⟨its, rv, ⟨o, n, ho, hc, _, hd⟩, _⟩ := I.list hs
    obtain ⟨as, bs, ra, rb, rk⟩ := drs_show I ha rv (by simpa [PyData.showable] using sh) (fun t m => Nat.le_trans (listText_mem_le m) z1)
    have rd : Reads s.heap (.ref a) (.list ds) _ := Reads.list ho hc hd ra
    have far : a ∉ bs := not_mem_of_deeper rd (by simp only [PyData.depth]; omega) rb
    simp only [PyData.depth] at dp
    simp only [PyData.shown] at q
    refine call_repr_slot (by omega) ⟨o, ho, hc⟩ F.slot_list_repr.toG ?_
    cases its with
    | nil =>
      cases ra
      simp only [PyData.shownAll, listText_nil] at q
      exact call_list_repr_empty ⟨o, ho, hc⟩ ho hd ⟨_, _, rfl, done _ s.heap _ _ same q⟩
    | cons y ys =>
      refine call_list_reprK ho hc hd far (by simpa using rk.length_eq) (fun i y e => rk.item i y (by simpa using e)) lid (fun b _ => Clear.nil b) (by show X.A.units + 1 + _ < cLine; omega) same (fun h' u tk k => ⟨_, _, rfl, done _ h' _ _ k q⟩) z1
  | @tup a xs ds hs ha =>
    cases r1
    have z1 : (tupleText (PyData.shownAll ds)).length ≤ sizeLine := by simpa only [PyData.shown] using z
    obtain ⟨its, rv, ⟨o, ho, hc, n, hd⟩, _⟩ := I.tuple hs
    obtain ⟨as, bs, ra, rb, rk⟩ := drs_show I ha rv (by simpa [PyData.showable] using sh) (fun t m => Nat.le_trans (tupleText_mem_le m) z1)
    have rd : Reads s.heap (.ref a) (.tuple ds) _ := Reads.tuple ho hc hd ra
    have far : a ∉ bs := not_mem_of_deeper rd (by simp only [PyData.depth]; omega) rb
    simp only [PyData.depth] at dp
    simp only [PyData.shown] at q
    refine call_repr_slot (by omega) ⟨o, ho, hc⟩ F.slot_tuple_repr ?_
    exact call_tuple_reprK ho hc hd far (by simpa using rk) lid (fun b _ => Clear.nil b) (by show X.A.units + 1 + _ < cLine; omega) same (fun h' u tk k => ⟨_, _, rfl, done _ h' _ _ k q⟩) z1
  | dic hs ha =>
    cases r1
    obtain ⟨o, es, n, ho, hc, hd, hsys, b1, far, en⟩ := showsD I hs ha sh z
    simp only [PyData.depth] at dp
    simp only [PyData.shown] at q z
    refine call_repr_slot (by omega) ⟨o, ho, hc⟩ F.slot_dict_repr ?_
    exact call_dict_reprK ho hc hd hsys far en lid (fun b _ => Clear.nil b) (by show X.A.units + 1 + _ < cLine; omega) same (fun h' u tk k => ⟨_, _, rfl, done _ h' _ _ k q⟩) z
end
end VK
/-! VGuard -/
set_option maxRecDepth 100000
set_option maxHeartbeats 2000000
/-! defs that are called where no repr is under way: the promise FnG, its calls, a law's end by it -/
namespace VK
open PySem PySem.Spec PyProof.Rows L2
/-- as FnOk, asked only where no repr is under way around the call -/
structure FnG (P : Program) (w : World) (K : PySem.W.Frag) (mg : Str → Option Value) (base : Heap) (CX : CXT) (k : Nat) (f : Addr) (fd : FuncData) (ps : List Str) (sp : Sp) : Prop where
  len : ∀ vs H Q E, sp vs H Q E → vs.length = ps.length
  go : ∀ (A : Around) (outer : List Env) (s : Shared) (H : Hp) (args : Args) (us : List Value) (vs : List V) (Q : VK) (E : XK), A.guards = some [] → Room k A →
    Env0 P w K mg base A outer s H → BindsTo s fd args (ps.zip us) → Vals vs us → sp vs H Q E → codeAny (model P w) A (.call (.ref f) args) (CR CX outer P w H s Q E) s
section
variable {P : Program} {w : World} {K : PySem.W.Frag} {mg : Str → Option Value} {base : Heap} {CX : CXT} {k : Nat} {f : Addr} {fd : FuncData} {ps : List Str} {sp : Sp}
theorem FnG.of (F : FnOk P w K mg base CX k f fd ps sp) : FnG P w K mg base CX k f fd ps sp :=
  ⟨F.len, fun A outer s H args us vs Q E _ => F.run A outer s H args us vs Q E⟩
/-- a def's body, walked where no repr is under way -/
theorem Fun.okG {x qual : Str} {st : Stmt} {N : List Str} (F : Fun K x qual st f fd) (S : FnScope N ps (defScope st)) (len : ∀ vs H Q E, sp vs H Q E → vs.length = ps.length)
    (hbody : ∀ (cdv : Value) (A : Around) (outer : List Env) (s : Shared) (H : Hp) (vs : List V) (Q : VK) (E : XK),
      (cxOf CX0 P w K mg base N qual (defScope st) f cdv A outer s H E).A.guards = some [] → Room k (A.deeper (envOfC qual (defScope st) s.heap.objs.size f cdv)) → sp vs H Q E →
      ∃ t, PSs (cxOf CX0 P w K mg base N qual (defScope st) f cdv A outer s H E) (defBody st) t ∧ t { nx := fun _ H' => Q .non H', rt := Q } (start N vs) H) :
    FnG P w K mg base CX0 (k + 1) f fd ps sp := by
  obtain ⟨oc, od, kV, doc, pm, an, cdv, ct, osl, rfl, lk, hcd⟩ := F.ex
  refine ⟨len, fun A outer s H args us vs Q E hg hr e0 hb r hsp => ?_⟩
  have KX := e0.mod.kin.keeps fun b o e => (e0.bs b o e).1
  have lim := e0.mod.nolimit.keeps fun b o e => (e0.bs b o e).1
  refine codeAny_call_function hr.depth (KX _ _ lk) rfl S.co S.gen rfl (PySem.W.codeRec_of KX hcd) (hb _ _ _ _ ?_)
  refine wpAny_newFunctionEnv_cells S.kind (fun ⟨n, v⟩ hy => ?_) fun env he s1 x => ?_
  · rcases S.par n (List.of_mem_zip hy).1 with q | q
    · exact .inl q
    · exact .inr ⟨q, PySem.W.cellsFrom_some _ _ _ (.inl q)⟩
  · subst he
    obtain ⟨t, ht, hq⟩ := hbody cdv A outer s H vs Q E hg (hr.deeper _) hsp
    refine ⟨lim.keeps x.toInCall.keep, codeAny_func (wpAny_mono (ht.run [] s1 _ H _ (inv_start S hr.hd e0 (len _ _ _ _ hsp) r x) hq) (fun fl s' hs => ?_) fun e s' hs => hs)⟩
    cases fl with
    | ret u =>
      obtain ⟨v, σ', H', J, rv, q⟩ := hs
      exact ⟨v, H', J.os, J.bare, J.base, J.hok, rv, q⟩
    | next =>
      obtain ⟨σ', H', J, q⟩ := hs
      exact ⟨.non, H', J.os, J.bare, J.base, J.hok, rfl, q⟩
    | brk =>
      obtain ⟨_, _, _, q⟩ := hs
      exact q.elim
    | cont =>
      obtain ⟨_, _, _, q⟩ := hs
      exact q.elim
end
section
variable {X : Cx} {CX : CXT} {k : Nat} {f : Addr} {fd : FuncData} {ps : List Str} {sp : Sp} {E : XK} {x : Str} {p pos : Pos} {e : Expr} {es : List Expr} {t : TA}
theorem go_fnG {pins : List (Addr × Obj)} {σ : L2.St} {H : Hp} {s : Shared} {Q : VK} {us : List Value} {vs : List V} (F : FnG X.prog X.w X.K X.mg X.base CX k f fd ps sp) (hg : X.A.guards = some []) (hr : Room k X.A) (hb : Binds X.K fd ps []) (hx : Passes CX X E)
    (I : Inv X pins σ H s) (r : Vals vs us) (h : sp vs H Q E) : wpAny (model X.prog X.w) X.A (call (.ref f) us) (EP X pins σ Q) X.xe s := by
  have hl : us.length = ps.length := r.length.symm.trans (F.len _ _ _ _ h)
  have b := hb s us I.kIn (by rw [List.append_nil]; exact hl)
  rw [List.append_nil] at b
  refine wpAny_call (codeAny_mono (F.go X.A X.stack s H ⟨us, []⟩ us vs Q E hg hr I.env0 b r h) fun r s' hq => ?_)
  match r, hq with
  | .error e, hq => exact hx pins σ H s e s' I hq
  | .ok (.ret u), hq => exact I.after hq
/-- f(e, ..) -/
theorem pe_callG (F : FnG X.prog X.w X.K X.mg X.base CX k f fd ps sp) (hgd : X.A.guards = some []) (hr : Room k X.A) (hg : Gl X x) (hm : X.mg x = some (.ref f)) (hk : PySem.W.keepIn X.K (.ref f) = true) (hb : Binds X.K fd ps []) (hx : Passes CX X E)
    (ha : PA X (e :: es) t) (hdb : (x == ("__debug__" : Str)) = false := by decide) (he : starEach (e :: es) X.env = (false, eval e X.env) :: starEach es X.env := by rfl) (hpl : (backTo pos (starEach es X.env)).any (·.1) = false := by rfl) :
    PE X (.Call (.Name x p) (e :: es) [] pos) (fun σ H Q => t σ H fun vs H1 => sp vs H1 Q E) := by
  refine ⟨fun pins s σ H Q I h => wpAny_Call_Name_kw (ld_glob I hg hm ?_ hdb)⟩
  exact PySem.W.callWith_K (h₀ := X.base) I.ok.mod.kin hk (thn (ha.run pos pins s σ H _ I h) fun us s1 ⟨vs, H1, I1, r, q⟩ => ⟨I1.kIn, go_fnG F hgd hr hb hx I1 r q⟩) he hpl
/-- f() -/
theorem pe_callG0 (F : FnG X.prog X.w X.K X.mg X.base CX k f fd ps sp) (hgd : X.A.guards = some []) (hr : Room k X.A) (hg : Gl X x) (hm : X.mg x = some (.ref f)) (hk : PySem.W.keepIn X.K (.ref f) = true) (hb : Binds X.K fd ps []) (hx : Passes CX X E)
    (hdb : (x == ("__debug__" : Str)) = false := by decide) : PE X (.Call (.Name x p) [] [] pos) (fun σ H Q => sp [] H Q E) := by
  refine ⟨fun pins s σ H Q I h => wpAny_Call_Name_kw (ld_glob I hg hm ?_ hdb)⟩
  exact PySem.W.callWith_K0 I.kIn hk (go_fnG (us := []) F hgd hr hb hx I .nil h)
end
/-! ### the law's own call -/
section
variable {P : Program} {w : World} {K : PySem.W.Frag} {mg mb : Str → Option Value} {k : Nat} {fa a : Addr} {fd : FuncData} {x : Str} {sp : Sp} {s₁ : Shared} {vs : List Value} {ns : List Int}
/-- the script, locked, where it is no object of the written part -/
def scriptH (K : PySem.W.Frag) (a : Addr) (vs : List Value) (ns : List Int) : Hp := fun b => if b = a ∧ (K.lookup a).isNone = true then some (.frz { cls := .type "list", data := .seq vs.toArray } (.lst (ns.map V.int))) else none
theorem scriptH_some {b : Addr} {o : HO} (h : scriptH K a vs ns b = some o) : b = a ∧ K.lookup a = none ∧ o = .frz { cls := .type "list", data := .seq vs.toArray } (.lst (ns.map V.int)) := by
  unfold scriptH at h
  by_cases c : b = a ∧ (K.lookup a).isNone = true
  · rw [if_pos c] at h
    exact ⟨c.1, Option.isNone_iff_eq_none.mp c.2, (Option.some.inj h).symm⟩
  · rw [if_neg c] at h
    cases h
theorem law_callG (KX : K.In s₁.heap) (hns : s₁.heap.Ns mainGlobals mg) (hb : s₁.heap.Ns builtinsNs mb) (hbb : ∀ x : Str, x ≠ "__name__" → mb x = bootBuiltins x) (hlim : s₁.heap.NoLimit) (hg : s₁.gens = #[])
    (ha : s₁.heap.get? a = some { cls := .type "list", data := .seq vs.toArray }) (hi : IntsAre vs ns) (hl : ns.length ≤ sizeLine) (hr : Room k callerA)
    (F : ∀ base : Heap, K.In base → base.Ns mainGlobals mg → FnG P w K mg base CX0 k fa fd [x] sp) (hbind : ∀ (s : Shared) (u : Value), BindsTo s fd ⟨[u], []⟩ [(x, u)])
    (hsp : ∀ H : Hp, SqL K H a (ns.map V.int) → sp [.ref a] H (fun v _ => v = .bl true) fun _ _ _ => False) :
    codeAny (model P w) callerA (.call (.ref fa) ⟨[.ref a], []⟩) (fun r s' => r = .ok (.ret (.bool true)) ∧ OldK s₁.heap s'.heap ∧ s'.os = s₁.os ∧ AllBare s'.gens) s₁ := by
  have rv := vals_ints hi
  obtain ⟨H, eH⟩ : ∃ H, H = scriptH K a vs ns := ⟨_, rfl⟩
  have some_ : ∀ {b : Addr} {o : HO}, H b = some o → b = a ∧ K.lookup a = none ∧ o = .frz { cls := .type "list", data := .seq vs.toArray } (.lst (ns.map V.int)) := fun {b o} e => scriptH_some (K := K) (vs := vs) (ns := ns) (by rw [← eH]; exact e)
  have hS : SqL K H a (ns.map V.int) := by
    cases q : K.lookup a with
    | none => exact .inl (.inr ⟨_, by rw [eH]; exact if_pos ⟨rfl, by rw [q]; rfl⟩⟩)
    | some o =>
      have e := KX a o q
      rw [ha] at e
      cases e
      exact .inr ⟨_, vs.toArray, _, q, rfl, rfl, rfl, by rw [List.size_toArray, hi.length]; exact hl, by simpa using rv⟩
  have hok : HOk P w H s₁.heap := fun b o e => by
    obtain ⟨rfl, _, rfl⟩ := some_ e
    exact ⟨ha, by rw [List.length_map]; exact hl, vs, _, rv, ha⟩
  have none_ : ∀ {b : Addr} {o : Obj} {es : Array DictEntry} {ep : Nat}, s₁.heap.get? b = some o → o.data = .dict es ep → H b = none := fun {b o es ep} e d => by
    cases q : H b with
    | none => rfl
    | some u =>
      obtain ⟨rfl, _, _⟩ := some_ q
      rw [ha] at e
      cases e
      exact Data.noConfusion d
  have ns_ : ∀ {b : Addr} {m : Str → Option Value}, s₁.heap.Ns b m → (hidT s₁.heap H).Ns b m := fun {b m} ⟨o, es, ep, e, d, r⟩ => ⟨o, es, ep, hidT_get e (none_ e d), d, r⟩
  have kb : K.In (hidT s₁.heap H) := fun b o e => hidT_get (KX b o e) (by
    cases q : H b with
    | none => rfl
    | some u =>
      obtain ⟨rfl, z, _⟩ := some_ q
      rw [z] at e
      cases e)
  have e0 : Env0 P w K mg (hidT s₁.heap H) callerA [] s₁ H :=
    { frames := rfl, mod := ⟨kb, ns_ hns, ⟨mb, ns_ hb, hbb⟩, by obtain ⟨mc, h1, h2⟩ := hlim; exact ⟨mc, ns_ h1, h2⟩⟩, bs := fun b o e => of_hidT e, bsz := Nat.le_of_eq (hidT_size _ _), funs := trivial, frf := fun b z => (by cases z), hok := hok, bare := .of_eq hg }
  refine codeAny_mono ((F _ kb (ns_ hns)).go callerA [] s₁ H ⟨[.ref a], []⟩ [.ref a] [.ref a] _ _ rfl hr e0 (hbind s₁ (.ref a)) (.cons rfl .nil) (hsp H hS)) fun r s' h => ?_
  match r, h with
  | .error e, h => exact h.elim
  | .ok (.ret u), h =>
    obtain ⟨v, H', os, bare, un, hok', rel, q⟩ := h
    have q' : v = .bl true := q
    subst q'
    have eu : u = Value.bool true := rel
    refine ⟨by rw [eu], OldK.of_keep fun b o e => ?_, os, bare⟩
    cases z : H b with
    | none => exact un.keep b o e z (fun m => by cases m) (fun m => by cases m)
    | some u' =>
      obtain ⟨rfl, _, rfl⟩ := some_ z
      have same := (hok' _ _ (un.frzs _ _ _ z)).1
      rw [ha] at e
      cases e
      exact same
theorem walk_ofG {l : PySem.W.OpenLaw} {n : Nat} {q : Program} {loose : List Str} {XP : (Str → Option Value) → Heap → Prop} {YP : World → Heap → Prop} {d : DefRec} {K : Params → PySem.W.Frag} {sp : PySem.W.Frag → Sp}
    (hn : l.most = some n) (hn2 : n ≤ sizeLine) (hdf : d.params.defaults = []) (hr : Room k callerA) (hY : ∀ (w : World) (h : Heap), YP w h → (K w.params).In h)
    (F : ∀ (w : World) (mg : Str → Option Value) (fa : Addr) (h : Heap), (K w.params).In h → h.Ns mainGlobals mg → mg d.name = some (.ref fa) →
      ∃ fd : FuncData, (∀ (s : Shared) (u : Value), BindsTo s fd ⟨[u], []⟩ [(x, u)]) ∧ ∀ base : Heap, (K w.params).In base → base.Ns mainGlobals mg → FnG l.prog w (K w.params) mg base CX0 k fa fd [x] (sp (K w.params)))
    (hsp : ∀ (K : PySem.W.Frag) (H : Hp) (a : Addr) (ns : List Int), ns.length ≤ n → SqL K H a (ns.map V.int) → sp K [.ref a] H (fun v _ => v = .bl true) fun _ _ _ => False) :
    PySem.W.WalkO q loose XP YP l.row.toRowW d [] (fun f vs => PySem.call f vs) := by
  refine Att.attach_call hn hdf fun w s₀ s₁ mg mb fa o pm cd doc a vs ns G Y _ _ _ hmg hobj hints hlen hg => ?_
  obtain ⟨fd, hb, hF⟩ := F w mg fa _ (hY w _ Y) G.T.g hmg
  exact law_callG (hY w _ Y) G.T.g G.T.b G.T.builtins G.T.nolimit hg hobj hints (Nat.le_trans hlen hn2) hr hF hb fun H hS => hsp _ H a ns hlen hS
end
end VK
/-! VTry -/
set_option maxRecDepth 100000
set_option maxHeartbeats 2000000
/-! try with several except clauses, each with a name or without one -/
namespace VK
open PySem PySem.Spec PyProof.Rows L2
/-- a clause: its class, its name's slot, its suite's reading -/
structure Cl where
  cls : Value
  slot : Option Nat
  suite : Addr → Value → Option Addr → L2.TS
/-- behind a suite the clause's name is gone -/
def gone (o : Option Nat) (D : Ends) : Ends := match o with
  | none => D
  | some i => { nx := fun σ H => D.nx (σ.set i none) H, rt := D.rt, bk := fun σ H => D.bk (σ.set i none) H, ct := fun σ H => D.ct (σ.set i none) H }
def named (o : Option Nat) (a : Addr) (σ : L2.St) : L2.St := match o with
  | none => σ
  | some i => σ.set i (some (.ref a))
/-- what the clauses want of an exception -/
def wCl (K : PySem.W.Frag) (out : WX) (D : Ends) : List Cl → WX
  | [] => out
  | q :: r => fun cls d σ H => ∃ b, PySem.W.exmOne K cls q.cls = some b ∧ (b = true → ∀ a, H a = none → q.suite a cls d (gone q.slot D) (named q.slot a σ) H) ∧ (b = false → wCl K out D r cls d σ H)
/-- the clauses of the text are these -/
inductive Cls_ (X : Cx) : List ExceptHandler → List Cl → Prop
  | nil : Cls_ X [] []
  | plain {x : Str} {c : Value} {ts : Addr → Value → Option Addr → L2.TS} {b₀ : Stmt} {suite : List Stmt} {np pos' : Pos} {hds : List ExceptHandler} {l : List Cl} (hc : Names X x c)
      (hs : ∀ (a : Addr) (oe : Obj) (cls : Value) (d : Option Addr) (pn : List (Addr × Obj)), Zc cls d oe → (∃ vs, oe.data = .fields vs) → PSs (X.suite a ((a, oe) :: pn)) (b₀ :: suite) (ts a cls d)) (r : Cls_ X hds l) :
      Cls_ X (.ExceptHandler (some (.Name x np)) none (b₀ :: suite) pos' :: hds) (⟨c, none, ts⟩ :: l)
  | as {x n : Str} {i : Nat} {c : Value} {ts : Addr → Value → Option Addr → L2.TS} {b₀ : Stmt} {suite : List Stmt} {np pos' : Pos} {hds : List ExceptHandler} {l : List Cl} (hN : X.N.Nodup) (hi : X.N[i]? = some n) (hl : X.env.kindOf n = some .local) (hc : Names X x c)
      (hs : ∀ (a : Addr) (oe : Obj) (cls : Value) (d : Option Addr) (pn : List (Addr × Obj)), Zc cls d oe → (∃ vs, oe.data = .fields vs) → PSs (X.suite a ((a, oe) :: pn)) (b₀ :: suite) (ts a cls d)) (r : Cls_ X hds l) :
      Cls_ X (.ExceptHandler (some (.Name x np)) (some n) (b₀ :: suite) pos' :: hds) (⟨c, some i, ts⟩ :: l)
section
variable {X : Cx}
/-- an exception that has come down in this frame -/
structure Down (X : Cx) (pins : List (Addr × Obj)) (σ : L2.St) (H : Hp) (cls : Value) (d : Option Addr) (a : Addr) (B : Heap) (sI s' : Shared) : Prop where
  inv : Inv X pins σ H sI
  gr : ∀ b o, sI.heap.get? b = some o → b ∉ frs X.stack → B.get? b = some o
  up : sI.heap.UpToSlots s'.heap
  fl : HandSPX.FlyingZ B (X.env :: X.outer) a (Zc cls d) s'.heap
  na : H a = none
  os : s'.os = sI.os
  ag : AllBare s'.gens
variable {pins : List (Addr × Obj)} {σ : L2.St} {H : Hp} {cls : Value} {d : Option Addr} {a : Addr} {B : Heap} {sI s' : Shared}
theorem Down.here (D : Down X pins σ H cls d a B sI s') : Inv X pins σ H s' := D.inv.landed D.gr D.fl.1 D.up D.os D.ag
theorem Down.again (D : Down X pins σ H cls d a B sI s') {h4 : Heap} (f : HandSPX.FlyingZ B (X.env :: X.outer) a (Zc cls d) h4) (u : s'.heap.UpToSlots h4) : Down X pins σ H cls d a B sI { s' with heap := h4 } :=
  ⟨D.inv, D.gr, D.up.trans u, f, D.na, D.os, D.ag⟩
theorem Down.notFr (D : Down X pins σ H cls d a B sI s') : a ∉ frs (X.env :: X.outer) := fun m => by
  obtain ⟨oe, vs, he, _, hd⟩ := D.fl.there
  obtain ⟨_, o', e', nf⟩ := D.fl.2.2.1.mem m
  rw [he] at e'
  cases e'
  exact nf _ hd
theorem Down.suite (D : Down X pins σ H cls d a B sI s') (hf : X.env.frame = some X.env.locals) :
    ∃ oe, Zc cls d oe ∧ (∃ vs, oe.data = .fields vs) ∧ s'.heap.get? a = some oe ∧ Inv (X.suite a ((a, oe) :: (X.pn ++ pins))) [] σ H s' := by
  obtain ⟨oe, vs, he, hz, hd⟩ := D.fl.there
  refine ⟨oe, hz, ⟨vs, hd⟩, he, D.here.suite he hd D.na (fun z => D.notFr ?_) fun m => D.notFr ?_⟩
  · exact List.mem_filterMap.mpr ⟨X.env, List.mem_cons_self, by rw [hf, z]⟩
  · obtain ⟨e, h1, h2⟩ := List.mem_filterMap.mp m
    exact List.mem_filterMap.mpr ⟨e, List.mem_cons_of_mem _ h1, h2⟩
theorem handles (hs : X.stack = X.env :: X.outer) (hf : X.env.frame = some X.env.locals) {out : WX} (tk : Takes X out) {E : Ends} : ∀ {hds : List ExceptHandler} {l : List Cl}, Cls_ X hds l → ∀ {s' : Shared}, Down X pins σ H cls d a B sI s' → wCl X.K out E l cls d σ H →
    wpAny (model X.prog X.w) X.A (handleBy (.ref a) X.env hds) (SP X pins E) X.xe s' := by
  intro hds l hk
  have look : ∀ {x : Str} {np : Pos} {c : Value}, Names X x c → ∀ {s' : Shared}, Down X pins σ H cls d a B sI s' → ∀ {Q : Value → Shared → Prop} {E' : Value → Shared → Prop}, Q c s' →
      wpAny (model X.prog X.w) (X.A.mark (some (.ref a))) (eval (.Name x np) X.env) Q E' s' := fun {x np c} hc {s'} D {Q E'} q => by
    obtain ⟨oe, _, _, _, S⟩ := D.suite hf
    obtain ⟨g, db, m | ⟨m, v, nn⟩⟩ := hc
    · exact ld_glob (X := X.suite a ((a, oe) :: (X.pn ++ pins))) S g m q db
    · exact ld_blt (X := X.suite a ((a, oe) :: (X.pn ++ pins))) S g m v q nn db
  induction hk with
  | nil =>
    intro s' D w
    refine wpAny_handleBy_nil ?_
    obtain ⟨_, _, _, oe, vs, T, oT, ts', he, hz, hd, h1, _⟩ := id D.fl
    unfold PySem.passOn
    refine wpAny_bind (wpAny_field he hd h1 ?_)
    rw [if_neg (show ¬ ((Value.ref T == Value.none) = true) from by simp)]
    have fin : wpAny (model X.prog X.w) X.A (setFlight (.ref a) X.env.frame) (fun _ s4 => wpAny (model X.prog X.w) X.A (throw (.ref a) : Sem Flow) (SP X pins E) X.xe s4) X.xe s' := by
      rw [hf]
      refine HandSPX.setFlight_upZ D.fl fun h4 hh4 up4 => wpAny_throw (tk _ _ ?_)
      exact ⟨a, B, sI, pins, σ, H, cls, d, rfl, D.inv, D.gr, D.up.trans up4, .inr (.inr (by rw [hs]; exact hh4)), D.na, D.os, D.ag, w⟩
    first
      | exact wpAny_bind (wpAny_pure (wpAny_bind fin))
      | exact wpAny_bind fin
  | plain hc hsu r ih =>
    intro s' D w
    obtain ⟨b, hb, yes, no⟩ := w
    refine wpAny_handleBy_cons (codeAny_handlers_test ?_) (fun q => by cases q)
    refine look hc D ?_
    obtain ⟨oe0, hz0, _, he0, _⟩ := D.suite hf
    have ty : PySem.W.Looks (model X.prog X.w) s'.heap (typeOf (.ref a)) cls := fun A Q E s k q => wpAny_typeOf_ref (k _ _ he0) (by rw [hz0.1]; exact q)
    refine (PySem.W.exm_one (M := model X.prog X.w) D.here.kIn ty hb).here ?_
    cases b with
    | false => exact ih D (no rfl)
    | true =>
      refine codeAny_handlers_suite (HandSPX.lands_againZ D.fl fun h4 fl4 up4 => ?_)
      obtain ⟨oe, hz, hd, _, S⟩ := (D.again fl4 up4).suite hf
      refine wpAny_mono ((hsu a oe cls d (X.pn ++ pins) hz hd).run [] _ _ H _ S (yes rfl a D.na)) (fun f s6 hsp => ?_) (fun _ _ z => z.elim)
      match f, hsp with
      | .next, hsp => obtain ⟨σ6, H6, S6, q6⟩ := hsp; exact ⟨_, _, S6.unsuite D.inv.ok, q6⟩
      | .brk, hsp => obtain ⟨σ6, H6, S6, q6⟩ := hsp; exact ⟨_, _, S6.unsuite D.inv.ok, q6⟩
      | .cont, hsp => obtain ⟨σ6, H6, S6, q6⟩ := hsp; exact ⟨_, _, S6.unsuite D.inv.ok, q6⟩
      | .ret u, hsp => obtain ⟨v6, σ6, H6, S6, r6, q6⟩ := hsp; exact ⟨_, _, _, S6.unsuite D.inv.ok, r6, q6⟩
  | @as x n i c ts b₀ suite np pos' hds' l' hN hi hl hc hsu r ih =>
    intro s' D w
    obtain ⟨b, hb, yes, no⟩ := w
    refine wpAny_handleBy_cons (codeAny_handlers_test ?_) (fun q => by cases q)
    refine look hc D ?_
    obtain ⟨oe0, hz0, _, he0, _⟩ := D.suite hf
    have ty : PySem.W.Looks (model X.prog X.w) s'.heap (typeOf (.ref a)) cls := fun A Q E s k q => wpAny_typeOf_ref (k _ _ he0) (by rw [hz0.1]; exact q)
    refine (PySem.W.exm_one (M := model X.prog X.w) D.here.kIn ty hb).here ?_
    cases b with
    | false => exact ih D (no rfl)
    | true =>
      refine codeAny_handlers_suite_as (HandSPX.lands_againZ D.fl fun h4 fl4 up4 => ?_)
      obtain ⟨oe, hz, hd, _, S⟩ := (D.again fl4 up4).suite hf
      refine store_ok (X := X.suite a ((a, oe) :: (X.pn ++ pins))) (v := .ref a) S hN hi (Or.inl hl) rfl (fun s5 S5 => ?_) (.inr hl)
      refine wpAny_mono ((hsu a oe cls d (X.pn ++ pins) hz hd).run [] s5 _ H _ S5 (yes rfl a D.na)) (fun f s6 hsp => ?_) (fun _ _ z => z.elim)
      have away : ∀ {σ6 : L2.St} {H6 : Hp} {Q : Shared → Prop}, Inv (X.suite a ((a, oe) :: (X.pn ++ pins))) [] σ6 H6 s6 → (∀ s7, Inv X pins (σ6.set i none) H6 s7 → Q s7) →
          wpAny (model X.prog X.w) X.A (do bindName X.env n .none; unbindBehindTheSuite X.env n pos') (fun _ s7 => Q s7) X.xe s6 := fun S6 hq => gone_ok (S6.unsuite D.inv.ok) hN hi hl hq
      match f, hsp with
      | .next, hsp => obtain ⟨σ6, H6, S6, q6⟩ := hsp; exact away S6 fun s7 J7 => ⟨_, _, J7, q6⟩
      | .brk, hsp => obtain ⟨σ6, H6, S6, q6⟩ := hsp; exact away S6 fun s7 J7 => ⟨_, _, J7, q6⟩
      | .cont, hsp => obtain ⟨σ6, H6, S6, q6⟩ := hsp; exact away S6 fun s7 J7 => ⟨_, _, J7, q6⟩
      | .ret u, hsp => obtain ⟨v6, σ6, H6, S6, r6, q6⟩ := hsp; exact away S6 fun s7 J7 => ⟨_, _, _, J7, r6, q6⟩
/-- try: body / the clauses -/
theorem ps_try_cl {body : List Stmt} {h₀ : ExceptHandler} {hds : List ExceptHandler} {l : List Cl} {pos : Pos} {tb : WX → L2.TS} {out : WX} (hs : X.stack = X.env :: X.outer) (hf : X.env.frame = some X.env.locals) (tk : Takes X out)
    (hb : ∀ (W : WX) (pn : List (Addr × Obj)) (xe : Value → Shared → Prop), Takes (X.tr pn xe) W → PassesOwn (model X.prog X.w) X.A X.env xe → PSs (X.tr pn xe) body (tb W))
    (hh : Cls_ X (h₀ :: hds) l) : PS X (.Try body (h₀ :: hds) [] [] pos) (fun D σ H => tb (wCl X.K out D l) D σ H) := by
  refine ⟨fun pins s σ H D I h => ?_⟩
  have ok := I.ok
  have hfr : X.A.frames = some (X.env :: X.outer) := by rw [ok.frames, hs]
  refine wpAny_Try_except (wpAny_mono ((hb (wCl X.K out D l) (X.pn ++ pins) (fun e s₁ => wpAny (model X.prog X.w) X.A (noteFrame e X.env) (fun _ s₂ => wpAny (model X.prog X.w) X.A (setFlight e none)
    (fun _ s₃ => wpAny (model X.prog X.w) X.A (handleBy e X.env (h₀ :: hds)) (SP X pins D) X.xe s₃) X.xe s₂) X.xe s₁) (fun u s' xx => ?_) PassesOwn.looking).run [] s σ H D (I.toTry _) h) (fun f s1 hsp => ?_) (fun e s1 he => he))
  · obtain ⟨a, B, sI, pins', σ', H', cls, d, rfl, J', nb, up, sky, na, os, ag, w⟩ := xx
    have sky' : Sky B (X.env :: X.outer) a (Zc cls d) X.env.locals s'.heap := by rw [← hs]; exact sky
    exact Sky.land Zc.steady hfr hf sky' fun h3 fl3 up3 => handles hs hf tk hh (s' := { s' with heap := h3 }) ⟨J'.ofTry ok, nb, up.trans up3, fl3, na, os, ag⟩ w
  · match f, hsp with
    | .next, hsp => obtain ⟨σ', H', J', q⟩ := hsp; exact wpAny_execs_nil ⟨σ', H', J'.ofTry ok, q⟩
    | .brk, hsp => obtain ⟨σ', H', J', q⟩ := hsp; exact ⟨σ', H', J'.ofTry ok, q⟩
    | .cont, hsp => obtain ⟨σ', H', J', q⟩ := hsp; exact ⟨σ', H', J'.ofTry ok, q⟩
    | .ret u, hsp => obtain ⟨v, σ', H', J', r, q⟩ := hsp; exact ⟨v, σ', H', J'.ofTry ok, r, q⟩
end
end VK
/-! VExc -/
set_option maxRecDepth 100000
set_option maxHeartbeats 4000000
/-! own error classes over any built-in error: with the __init__ that keeps one value, made as values or raised; their field; isinstance of them -/
namespace VK
open PySem PySem.Spec PySem.W PySem.Calls PyProof.Rows PySem.HandSPX Builtin Builtin.ObjectAttr
def iA (f : Str) (p1 p2 : Pos) : Arguments := { posonlyargs := [], args := [{ arg := "self", annotation := none, pos := p1 }, { arg := f, annotation := none, pos := p2 }], vararg := none, kwonlyargs := [], kw_defaults := [], kwarg := none, defaults := [] }
def iB (f : Str) (q1 q2 q3 q4 : Pos) : List Stmt := [.Assign [.Attribute (.Name "self" q1) f q2] (.Name f q3) q4]
def iS (f : Str) : Scope := { kind := .function, names := [(PySem.Str.ofString "self", .local), (f, .local)], isGenerator := false, isCoroutine := false, more := [] }
/-- what computes by itself of such a parameter's name -/
structure Fld (f : Str) : Prop where
  bind : ∀ (qual : Str) (p1 p2 q1 q2 q3 q4 : Pos) (doc pm : Value) (an : Option Addr) (cdv ct a b : Value), bindArgs (fnOf "__init__" qual (iA f p1 p2) (iB f q1 q2 q3 q4) (iS f) .none .none doc pm an cdv ct) ⟨[a, b], []⟩ = pure ([("self", a), (f, b)] : List (Str × Value))
  kinds : ∀ a b : Value, (([("self", a), (f, b)] : List (Str × Value)).all fun y => (iS f).names.lookup y.1 == some .local || (iS f).names.lookup y.1 == some .cell) = true
  kf : ∀ (qual : Str) (L fI : Addr) (cdv : Value), (envOfC qual (iS f) L fI cdv).kindOf f = some .local
  ks : ∀ (qual : Str) (L fI : Addr) (cdv : Value), (envOfC qual (iS f) L fI cdv).kindOf "self" = some .local
  vf : ∀ (qual : Str) (L fI : Addr) (cdv a b : Value), bindL (envOfC qual (iS f) L fI cdv).kindOf [("self", a), (f, b)] (fun _ => none) f = some b
  vs : ∀ (qual : Str) (L fI : Addr) (cdv a b : Value), bindL (envOfC qual (iS f) L fI cdv).kindOf [("self", a), (f, b)] (fun _ => none) "self" = some a
  db : (f == ("__debug__" : Str)) = false
theorem fld_number : Fld "number" := ⟨fun _ _ _ _ _ _ _ _ _ _ _ _ _ _ => rfl, fun _ _ => rfl, fun _ _ _ _ => rfl, fun _ _ _ _ => rfl, fun _ _ _ _ _ _ => rfl, fun _ _ _ _ _ _ => rfl, by decide⟩
theorem fld_name : Fld "name" := ⟨fun _ _ _ _ _ _ _ _ _ _ _ _ _ _ => rfl, fun _ _ => rfl, fun _ _ _ _ => rfl, fun _ _ _ _ => rfl, fun _ _ _ _ _ _ => rfl, fun _ _ _ _ _ _ => rfl, by decide⟩
theorem fld_value : Fld "value" := ⟨fun _ _ _ _ _ _ _ _ _ _ _ _ _ _ => rfl, fun _ _ => rfl, fun _ _ _ _ => rfl, fun _ _ _ _ => rfl, fun _ _ _ _ _ _ => rfl, fun _ _ _ _ _ _ => rfl, by decide⟩
theorem fld_wanted : Fld "wanted" := ⟨fun _ _ _ _ _ _ _ _ _ _ _ _ _ _ => rfl, fun _ _ => rfl, fun _ _ _ _ => rfl, fun _ _ _ _ => rfl, fun _ _ _ _ _ _ => rfl, fun _ _ _ _ _ _ => rfl, by decide⟩
theorem fld_limit : Fld "limit" := ⟨fun _ _ _ _ _ _ _ _ _ _ _ _ _ _ => rfl, fun _ _ => rfl, fun _ _ _ _ => rfl, fun _ _ _ _ => rfl, fun _ _ _ _ _ _ => rfl, fun _ _ _ _ _ _ => rfl, by decide⟩
theorem fld_pledge : Fld "pledge" := ⟨fun _ _ _ _ _ _ _ _ _ _ _ _ _ _ => rfl, fun _ _ => rfl, fun _ _ _ _ => rfl, fun _ _ _ _ => rfl, fun _ _ _ _ _ _ => rfl, fun _ _ _ _ _ _ => rfl, by decide⟩
/-- what the written part says of the error class x at C, whose __init__ at fI keeps its argument as f -/
structure IniT (K : Frag) (mg : Str → Option Value) (x f qual : Str) (C fI : Addr) (newId : String) (bmB : List Value) : Prop where
  gC : mg x = some (.ref C)
  cls : excInitIn K C bmB newId = true
  ov : excOver K C bmB = true
  tk : takerIn K C f = some none
  sa : findIn K (.ref C) "__setattr__" = some (some (.builtin "object.__setattr__"))
  ga : findIn K (.ref C) "__getattribute__" = some (some (.builtin "BaseException.__getattribute__"))
  gg : findIn K (.ref C) "__getattr__" = some none
  noN : findIn K (.ref C) f = some none
  iC : findIn K (.ref C) "__init__" = some (some (.ref fI))
  tC : typeIn K (.ref fI) = some (.type "function")
  kC : keepIn K (.ref C) = true
  exC : subIn K (.ref C) (.type "BaseException") = some true
  tyC : typeIn K (.ref C) = some (.type "type")
  hdC : hasDictIn K C = true
  fn : ∃ (oc : Value) (od : Option Addr) (doc pm : Value) (an : Option Addr) (cdv ct : Value) (osl : Array (Option Value)) (p1 p2 q1 q2 q3 q4 : Pos),
    K.lookup fI = some ⟨oc, od, .func (fnOf "__init__" qual (iA f p1 p2) (iB f q1 q2 q3 q4) (iS f) .none .none doc pm an cdv ct), osl⟩ ∧ codeIn K cdv qual = true
theorem ldN {M : Model} {s : Shared} {name : Str} {scope : Scope} {L a : Addr} {cd : Value} {m : Str → Option Value} {x : Str} {pos : Pos} {v : Value} {Q : Value → Shared → Prop} {A : Around} {E : Value → Shared → Prop} (hn : s.heap.Ns L m) (hv : m x = some v) (h : Q v s)
    (hk : scope.kind = .function) (hl : (envOfC name scope L a cd).kindOf x = some .local) (hd : (x == ("__debug__" : Str)) = false) :
    wpAny M A (eval (.Name x pos) (envOfC name scope L a cd)) Q E s := wpAny_Name (wpAny_loadName_local hk hl hn hv h) hd
section
variable {prog : Program} {w : World} {A : Around} {E : Value → Shared → Prop} {R : Result → Shared → Prop} {hp : Heap} {g : Array GenState} {d : Drawn} {t : Nat} {os : OsState} {K : Frag} {bmB : List Value} {B : String}
/-- the first field of an error that has no dict yet -/
theorem set_new {name : Str} {tk : Tok} {v : Value} {x C : Addr} {fv : Array Value} (SF : StoreFacts B bmB "object.__setattr__" "object") (X : K.In hp) (hx : hp.get? x = some { cls := .ref C, data := .fields fv })
    (ho : excOver K C bmB = true) (ht : takerIn K C name = some none) (hh : hasDictIn K C = true)
    (hq : ∀ h' tk' dx, (∀ b o, b ≠ x → hp.get? b = some o → h'.get? b = some o) → hp.objs.size ≤ dx → dx ≠ x → h'.get? x = some { cls := .ref C, dict := some dx, data := .fields fv } →
      h'.Ns1 dx (fun y => if y = name then some v else none) → R (.ok (.ret .none)) ⟨h', g, d, tk', os⟩) :
    codeAny (model prog w) A (.call (.builtin "object.__setattr__") ⟨[.ref x, .str name tk, v], []⟩) R ⟨hp, g, d, t, os⟩ := by
  obtain ⟨cd, hc, hd'⟩ := any_some hh
  have hxs : x ≠ hp.objs.size := Nat.ne_of_lt (Heap.lt_size hx)
  refine osa_openX (s := ⟨hp, g, d, t, os⟩) (od := none) SF X ⟨hx, rfl, rfl, trivial⟩ ho ht fun b => ?_
  have hcls : Looks (model prog w) hp (classData C) cd := looks_clsIn X hc
  obtain ⟨nm, bs, mro, ns, qn, hd, sn, sb, ab, col, del⟩ := cd
  dsimp only at hd'
  subst hd'
  show wpAny _ _ (storeInOwnDict (.ref x) (.ref C) (.str name tk) name v b) _ _ _
  unfold storeInOwnDict ownDictForStores
  repeat (first | with_reducible refine store_in_new ?_ ?_ | with_reducible refine wpAny_loadPart_at hx ?_ | with_reducible refine hcls.at ?_ | wp_step)
  · refine ⟨{ cls := .type "dict", data := .dict #[] }, #[], _, ?_, rfl, fun e he => absurd he (by simp), fun _ => rfl⟩
    exact Eq.trans (Heap.get?_update_ne _ _ _ _ hxs.symm) (Heap.get?_push_at rfl rfl)
  · intro h5 tk5 hn5 hs
    refine hq h5 tk5 hp.objs.size (fun b o hb e => ?_) (Nat.le_refl _) hxs.symm ?_ hn5
    · have h1 := hs.2 b (Nat.ne_of_lt (Heap.lt_size e))
      rw [Heap.get?_update_ne _ _ _ _ hb] at h1
      exact h1.trans (Heap.get?_push_of_some _ e)
    · have h1 := Heap.get?_push_of_some (h := hp) { cls := .type "dict", data := .dict #[] } hx
      exact (hs.2 x hxs).trans (Heap.get?_update_self _ h1 rfl)
/-- what a made error leaves: the error at e of the class C, its dict at dx with its one field -/
structure Made (h h' : Heap) (e C dx : Addr) (f : Str) (v : Value) : Prop where
  keep : ∀ b o, h.get? b = some o → h'.get? b = some o
  new : h.objs.size ≤ e
  obj : ∃ t1 : Addr, h'.get? e = some { cls := .ref C, dict := some dx, data := .fields #[.ref t1, .none, .none, .none, .bool false, .none] }
  dbig : h.objs.size ≤ dx
  dne : dx ≠ e
  ns : h'.Ns1 dx (fun y => if y = f then some v else none)
end
/-! ### the call of an own error class, asked of what its base has, not of the base's own chain -/
/-- the chain bm has the error class B whose maker makes the errors, and neither of the two odd classes -/
structure Chain (B : String) (bm : List Value) : Prop where
  hasB : bm.contains (.type B) = true
  noAttr : bm.contains (.type "AttributeError") = false
  noName : bm.contains (.type "NameError") = false
section
variable {prog : Program} {w : World} {A : Around} {E : Value → Shared → Prop} {R : Result → Shared → Prop} {h : Heap} {g : Array GenState} {d : Drawn} {t : Nat} {os : OsState}
variable {nm q : Str} {C N : Addr} {bs bm bmB : List Value} {hdct : Bool} {sn : List Str} {sub : List Value} {ab : Bool} {col : Option Bool} {dd : Option Addr} {k0 k1 k2 k3 k5 : Option Value} {B newId initId : String}
theorem Chain.up (c : Chain B bm) : (Value.ref C :: bm).contains (.type B) = true ∧ (Value.ref C :: bm).contains (.type "AttributeError") = false ∧ (Value.ref C :: bm).contains (.type "NameError") = false := by
  refine ⟨?_, ?_, ?_⟩
  · rw [List.contains_cons, c.hasB, Bool.or_true]
  · rw [List.contains_cons, c.noAttr]
    rfl
  · rw [List.contains_cons, c.noName]
    rfl
theorem new_err (F : ExcBaseFacts B newId initId bmB) (c : Chain B bm) {rest : List Value} (hC : h.get? C = some (excClassObj nm q C N bs bm hdct sn sub ab col dd k0 k1 k2 k3 k5 newId)) (hrest : rest.length ≤ sizeLine)
    (hq : R (.ok (.ret (.ref (h.objs.size + 1)))) ⟨(h.push (kdv_tup rest)).push (excO C h.objs.size), g, d, t, os⟩) : codeAny (model prog w) A (.builtin newId ⟨.ref C :: rest, []⟩) R ⟨h, g, d, t, os⟩ := by
  obtain ⟨cB, cA, cN⟩ := c.up (C := C)
  have ends := F.ends
  refine codeAny_builtinAt F.entry ?_
  unfold Builtin.«BaseException.__new__»
  refine PySem.wpAt_bind ?_
  show PySem.wpAt _ _ _ (stack >>= _) _ _ _
  refine PySem.wpAt_bind (PySem.wpAt_stack fun p below => PySem.wpAt_of_wpAny ?_)
  wp_walk
  refine PySem.wpAt_of_wpAny ?_
  rw [F.owner]
  repeat (first
    | with_reducible refine wpAny_madeHere_exc F.canon hC ?_
    | with_reducible refine wpAny_loadPart_at hC ?_
    | (with_reducible refine wpAny_isSubtype_exc hC ?_
       first | rw [cB] | rw [cA] | rw [cN])
    | wp_step)
  show R _ _
  rw [Heap.size_push]
  exact hq
theorem check_err (F : ExcBaseFacts B newId initId bmB) (c : Chain B bm) {rest : List Value} {Q : Unit → Shared → Prop} (hC : h.get? C = some (excClassObj nm q C N bs bm hdct sn sub ab col dd k0 k1 k2 k3 k5 newId)) (hq : Q () ⟨h, g, d, t, os⟩) :
    wpAny (model prog w) A (checkBuiltinCall newId ⟨.ref C :: rest, []⟩) Q E ⟨h, g, d, t, os⟩ := by
  obtain ⟨cB, _, _⟩ := c.up (C := C)
  have star := F.noStar
  simp only [checkBuiltinCall, F.newKind, F.newSplit, F.newRow]
  repeat (first
    | refine wpAny_loadPart_at hC ?_
    | (refine wpAny_isSubtype_exc hC ?_
       rw [cB])
    | refine wpAny_staticBase_exc hC ?_
    | refine wpAny_madeBy_exc hC ?_
    | simp only [bne_self_eq_false, Bool.false_eq_true, if_false]
    | wp_step)
  exact hq
theorem type_err (F : ExcBaseFacts B newId initId bmB) (c : Chain B bm) {rest : List Value} {fI : Addr} {Q : Fin → Shared → Prop} (hC : h.get? C = some (excClassObj nm q C N bs bm hdct sn sub ab col dd k0 k1 k2 k3 k5 newId))
    (hi : Looks (model prog w) h (typeLookup (.ref C) "__init__") (some (.ref fI))) (hb : ∀ self, Looks (model prog w) h (bindSpecial (.ref fI) self) (.ref fI, [self])) (hrest : rest.length ≤ sizeLine)
    (hq : codeAny (model prog w) A (.call (.ref fI) ⟨.ref (h.objs.size + 1) :: rest, []⟩)
      (fun r s' => match r with | .ok (.ret v) => v = .none ∧ Q (.done (.ret (.ref (h.objs.size + 1)))) s' | .ok _ => False | .error e => E e s') ⟨(h.push (kdv_tup rest)).push (excO C h.objs.size), g, d, t, os⟩) :
    wpAny (model prog w) A (Builtin.«type.__call__» ⟨.ref C :: rest, []⟩) Q E ⟨h, g, d, t, os⟩ := by
  repeat (first
    | with_reducible refine wpAny_loadPart_at hC ?_
    | with_reducible refine wpAny_madeBy_exc hC ?_
    | wp_step)
  refine codeAny_call_builtin_code (Code.quiet_builtin _ F.quiet) (check_err F c hC (new_err F c hC hrest ?_))
  show wpAny _ _ _ _ _ _
  have k : ∀ b o, h.get? b = some o → ((h.push (kdv_tup rest)).push (excO C h.objs.size)).get? b = some o := fun b o e => Heap.get?_push_of_some _ (Heap.get?_push_of_some _ e)
  have atE : ((h.push (kdv_tup rest)).push (excO C h.objs.size)).get? (h.objs.size + 1) = some (excO C h.objs.size) := by heap_get
  have own : (Value.ref C :: bm).contains (.ref C) = true := by simp
  unfold isInstance
  repeat (first
    | with_reducible refine wpAny_loadPart_at atE ?_
    | (with_reducible refine wpAny_isSubtype_exc (k _ _ hC) ?_
       rw [own])
    | wp_step)
  show wpAny _ _ (typeLookup (.ref C) _) _ _ _
  refine (hi.keeps k).at (wpAny_holding (wpAny_bind (((hb (.ref (h.objs.size + 1))).keeps k).at ?_)))
  refine wpAny_bind (wpAny_call (codeAny_mono hq fun r s' z => ?_))
  match r, z with
  | .error e, z => exact z
  | .ok (.ret v), z =>
    obtain ⟨rfl, z⟩ := z
    first
      | exact wpAny_pure (wpAny_pure z)
      | (wp_walk; exact z)
theorem call_err (F : ExcBaseFacts B newId initId bmB) (c : Chain B bm) {rest : List Value} {fI : Addr} (hC : h.get? C = some (excClassObj nm q C N bs bm hdct sn sub ab col dd k0 k1 k2 k3 k5 newId))
    (hi : Looks (model prog w) h (typeLookup (.ref C) "__init__") (some (.ref fI))) (hb : ∀ self, Looks (model prog w) h (bindSpecial (.ref fI) self) (.ref fI, [self])) (hrest : rest.length ≤ sizeLine)
    (hq : codeAny (model prog w) (A.under (.builtin "type.__call__" ⟨.ref C :: rest, []⟩)) (.call (.ref fI) ⟨.ref (h.objs.size + 1) :: rest, []⟩) (InitBack (h.objs.size + 1) R) ⟨(h.push (kdv_tup rest)).push (excO C h.objs.size), g, d, t, os⟩) :
    codeAny (model prog w) A (.call (.ref C) ⟨rest, []⟩) R ⟨h, g, d, t, os⟩ := by
  have l1 := tc_lookup
  have l2 := tc_bind (.ref C)
  have ty : (⟨h, g, d, t, os⟩ : Shared).TypeIs (.ref C) "type" := ⟨_, hC, rfl⟩
  refine codeAny_of_tree ?_
  show wpAny _ _ (callAny (.ref C) _) _ _ _
  repeat (any_goals (first
    | assumption
    | with_reducible refine wpAny_loadPart_at hC ?_
    | wp_step))
  refine ⟨rfl, ?_⟩
  refine codeAny_call_builtin_at (Code.quiet_builtin _ (by decide +kernel)) entry_typeCall (wpAny_check_type_call_sub hC (type_err F c hC hi hb hrest (codeAny_mono hq fun r s' z => ?_)))
  match r, z with
  | .error e, z => exact z
  | .ok (.ret v), z => exact z
end
section
variable {prog : Program} {w : World} {A : Around} {E : Value → Shared → Prop} {R : Result → Shared → Prop} {s : Shared} {K : Frag} {mg : Str → Option Value} {C fI : Addr} {x f qual : Str} {B B9 newId initId : String} {bmB : List Value}
theorem ini_runs (T : IniT K mg x f qual C fI newId bmB) (SF : StoreFacts B9 bmB "object.__setattr__" "object") (FF : Fld f) {e t0 : Addr} {v : Value} (X : K.In s.heap) (hlim : s.heap.NoLimit) (hx : s.heap.get? e = some (excO C t0))
    (hroom : A.depth < recursionLimit)
    (hq : ∀ h' tk dx, (∀ b o, b ≠ e → s.heap.get? b = some o → h'.get? b = some o) → h'.get? e = some { cls := .ref C, dict := some dx, data := .fields #[.ref t0, .none, .none, .none, .bool false, .none] } → s.heap.objs.size ≤ dx → dx ≠ e →
      h'.Ns1 dx (fun y => if y = f then some v else none) → R (.ok (.ret .none)) { s with heap := h', toks := tk }) :
    codeAny (model prog w) A (.call (.ref fI) ⟨[.ref e, v], []⟩) R s := by
  obtain ⟨oc, od, doc, pm, an, cdv, ct, osl, p1, p2, q1, q2, q3, q4, ho, hcd⟩ := T.fn
  refine Att.call_fn (binds := [("self", .ref e), (f, v)]) X hlim ho hcd hroom (BindsTo.of_eq (FF.bind _ _ _ _ _ _ _ _ _ _ _ _ _ _)) (FF.kinds _ _) (fun s₁ IC => ?_) rfl rfl rfl
  obtain ⟨h₁, tk₁, rfl⟩ := IC.toInCall.same
  have k := IC.toInCall.keep
  have hn := IC.toInCall.ns
  have z : s.heap.objs.size < h₁.objs.size := hn.lt
  have X₁ : K.In h₁ := X.keeps k
  have hx₁ := k _ _ hx
  show wpAny _ _ (execs (iB f q1 q2 q3 q4) _) _ _ _
  refine wpAny_execs_cons (plainObj_wpAny_Assign_Attribute ?_)
  refine ldN (v := v) hn (FF.vf _ _ _ _ _ _) (ldN (v := .ref e) hn (FF.vs _ _ _ _ _ _) ?_ rfl (FF.ks _ _ _ _) (by decide)) rfl (FF.kf _ _ _ _) FF.db
  refine set_plain X₁ (ox := excO C t0) (od := none) ⟨hx₁, rfl, rfl, trivial⟩ T.sa ?_
  refine set_new SF X₁ hx₁ T.ov T.tk T.hdC fun h₃ tk₃ dx k₃ dn dne hx₃ hn₃ => ?_
  show wpAny _ _ (execs _ _) _ _ _
  exact wpAny_execs_nil (hq h₃ tk₃ dx (fun b o hb q => k₃ b o hb (k b o q)) hx₃ (Nat.le_of_lt (Nat.lt_of_lt_of_le z dn)) dne hn₃)
theorem ini_made {bmF : List Value} (T : IniT K mg x f qual C fI newId bmB) (FB : ExcBaseFacts B newId initId bmF) (ch : Chain B bmB) (SF : StoreFacts B9 bmB "object.__setattr__" "object") (FF : Fld f) {v : Value} (X : K.In s.heap) (hlim : s.heap.NoLimit) (hroom : A.depth + 1 < recursionLimit)
    (hq : ∀ h' tk e dx, Made s.heap h' e C dx f v → R (.ok (.ret (.ref e))) { s with heap := h', toks := tk }) :
    codeAny (model prog w) A (.call (.ref C) ⟨[v], []⟩) R s := by
  obtain ⟨nm, N, qn, bs, bm, hdct, sn, sub, ab, col, dd, k0, k1, k2, k3, k5, hC, hT⟩ := excInit_of X T.cls
  obtain ⟨hp, g, dr, tk, os⟩ := s
  have k : ∀ b o, hp.get? b = some o → ((hp.push (kdv_tup [v])).push (excO C hp.objs.size)).get? b = some o := fun b o e => Heap.get?_push_of_some _ (Heap.get?_push_of_some _ e)
  have hget : ((hp.push (kdv_tup [v])).push (excO C hp.objs.size)).get? (hp.objs.size + 1) = some (excO C hp.objs.size) := by heap_get
  refine call_err FB ⟨(hT _).trans ch.hasB, (hT _).trans ch.noAttr, (hT _).trans ch.noName⟩ hC (looks_findIn X T.iC) (fun self => bind_fn X self T.tC) (by show 1 ≤ sizeLine; decide) ?_
  refine ini_runs (s := ⟨(hp.push (kdv_tup [v])).push (excO C hp.objs.size), g, dr, tk, os⟩) T SF FF (X.keeps k) (hlim.keeps k) hget hroom fun h' tk' dx k' hx dn dne hns => ?_
  have big : hp.objs.size + 1 + 1 ≤ dx := by
    first
      | (simpa only [Heap.size_push] using dn)
      | exact dn
  exact ⟨rfl, hq h' tk' (hp.objs.size + 1) dx ⟨fun b o e => k' b o (Nat.ne_of_lt (Nat.lt_succ_of_lt (Heap.lt_size e))) (k b o e), Nat.le_succ _, ⟨_, hx⟩, by show hp.objs.size ≤ dx; omega, dne, hns⟩⟩
end
/-! ### isinstance of errors, with a dict of their own or without -/
section
variable {prog : Program} {w : World} {A : Around} {E : Value → Shared → Prop} {s : Shared} {K : Frag} {x D : Addr} {ox : Obj}
theorem class_err {od : Option Obj} {Q : Option Value → Shared → Prop} (C : L2.ExcC K D) (X : K.In s.heap) (I : InstAt s.heap x ox D od) (h : Q (some (.ref D)) { s with toks := s.toks + 1 }) : wpAny (model prog w) A (getAttr? (.ref x) "__class__") Q E s := by
  obtain ⟨cd, hc, _⟩ := any_some C.hd
  have hf : findObj K D od "__class__" = some (.bind (.builtin "getset_descriptor.__get__") (.builtin "object.__class__")) := by
    unfold findObj
    rw [hc, Option.bind_some, C.ha, Option.bind_some]
    simp [C.hn, C.ht]
  obtain ⟨hp, g, d, t, os⟩ := s
  have ty := I.type (M := model prog w)
  have no : (Value.builtin "BaseException.__getattribute__" == Value.builtin "object.__getattribute__") = false := by decide +kernel
  unfold getAttr? getAttrBy? getAttrBy
  refine wpAny_bind (wpAny_mkText (wpAny_bind (wpAny_attempt (wpAny_holding ?_))))
  refine wpAny_bind (ty.at (wpAny_bind ((looks_findIn X C.hg).at ?_)))
  show wpAny _ _ (if (onTheHeap (Value.ref D) && Value.builtin "BaseException.__getattribute__" == Value.builtin "object.__getattribute__") = true then _ else _) _ _ _
  rw [show (onTheHeap (Value.ref D) && Value.builtin "BaseException.__getattribute__" == Value.builtin "object.__getattribute__") = false by rw [no]; rfl, if_neg Bool.false_ne_true]
  unfold getAttrByItsOwn hookBefore
  refine wpAny_bind ?_
  rw [if_pos (show onTheHeap (Value.ref D) = true from rfl)]
  refine (looks_findIn X C.hk).at (wpAny_bind (wpAny_attempt (wpAny_holding ?_)))
  unfold callGetattribute
  rw [if_neg (show ¬ ((false && onTheHeap (Value.builtin "BaseException.__getattribute__")) = true) from Bool.false_ne_true)]
  unfold boundAndCalled
  rw [PySem.F.excAttr_ValueError.ga.bind (.ref x)]
  refine wpAny_bind (wpAny_pure ?_)
  show wpAny _ _ (call (.builtin "BaseException.__getattribute__") [.ref x, .str "__class__" t]) _ _ _
  refine wpAny_call (codeAny_call_builtin PySem.F.excAttr_ValueError.ga.plain PySem.F.entry_bexc_ga ?_)
  refine @check_slot (model prog w) _ _ ⟨hp, g, d, t + 1, os⟩ "BaseException.__getattribute__" "BaseException" "__getattribute__" (.ref x) [.str "__class__" t] [] _ (by decide +kernel) (by decide +kernel) (ty.andThen (looks_subIn X C.hs)) (PySem.F.args_bexc_ga _ _) ?_
  unfold Builtin.«object.__getattribute__»
  refine wpAny_bind (wpAny_of_eq (a := ((Value.ref x : Value), [Value.str "__class__" t])) (by first | rfl | (simp only [slotArgs]; rfl)) ?_)
  refine wpAny_bind (wpAny_pure (wpAny_bind (ty.at (wpAny_bind ((looks_find X I hf).at ?_)))))
  show wpAny _ _ (holding [Value.builtin "object.__class__"] (call (.builtin "getset_descriptor.__get__") [.builtin "object.__class__", .ref x, .ref D]) >>= ret) _ _ _
  refine wpAny_bind (wpAny_holding (wpAny_call (class_get (s := ⟨hp, g, d, t + 1, os⟩) (ox := ox) (od := od) X I C.hm (wpAny_pure ?_))))
  show wpAny _ _ (handedOut (.ref D)) _ _ _
  rw [handedOut_of (v := .ref D) rfl]
  first
    | exact wpAny_pure (wpAny_pure h)
    | exact wpAny_pure h
theorem kit_err {od : Option Obj} (C : L2.ExcC K D) : KitX K (.ref x) (.ref D) (fun h => ∃ od, InstAt h x ox D od) := by
  obtain ⟨cd, hc, _⟩ := any_some C.hd
  obtain ⟨c', d', cd', sl', ho⟩ : ∃ c' d' cd' sl', K.lookup D = some ⟨c', d', .cls cd', sl'⟩ := by
    unfold clsIn at hc
    split at hc
    · rename_i c' d' cd' sl' ho
      exact ⟨c', d', cd', sl', ho⟩
    · cases hc
  exact {
    ty := fun _ _ _ ⟨_, I⟩ => I.type
    it := fun _ _ X _ A' Q' E' s' k q => by
      unfold isType loadHead
      exact wpAny_bind (wpAny_loadPart (k _ _ (X _ _ ho)) (wpAny_pure q))
    ne := fun h tp dd its n sl X htp => by
      refine Bool.eq_false_iff.mpr fun q => ?_
      have e : D = tp := Value.ref.inj (beq_iff_eq.mp q)
      subst e
      have z := (X _ _ ho).symm.trans htp
      cases z
    ca := fun X ⟨_, I⟩ k => class_err C X I k }
end
end VK
/-! VErr -/
set_option maxRecDepth 100000
set_option maxHeartbeats 4000000
/-! errors as values in the hand layer: made, asked for their class and their field, raised; a text times a truth value -/
namespace VK
open PySem PySem.Spec PyProof.Rows L2
section
variable {X : Cx}
theorem op_times : OpR X (binaryOp .Mult) (fun x y H Q => ∃ (z : Str) (k : Bool), x = .str z ∧ y = .int (if k = true then 1 else 0) ∧ Q (.str (if k = true then z else Str.empty)) H) := by
  intro pins s σ H x y v u Q I rx ry h
  obtain ⟨z, k, rfl, rfl, q⟩ := h
  obtain ⟨t, rfl⟩ := rx
  obtain ⟨t', rfl⟩ := ry
  cases k with
  | true => exact PySem.SB.mul (n := 1) ⟨by decide, fun _ h => by simp at h, fun _ h => by simp at h⟩ fun t' k => ⟨.str z, H, I.tok _, ⟨t', rfl⟩, q⟩
  | false => exact PySem.SB.mul (n := 0) ⟨by decide, fun h => absurd (by decide) h, fun h => absurd (by decide) h⟩ fun t' k => ⟨.str Str.empty, H, I.tok _, ⟨t', rfl⟩, q⟩
end
/-- at a: an error of the class at C whose own dict stands at d -/
def ErrD (C d a : Addr) : HO := .ext fun h => ∃ (oe : Obj) (vs : Array Value), h.get? a = some oe ∧ Zc (.ref C) (some d) oe ∧ oe.data = .fields vs
theorem errD_ok {P : Program} {w : World} {H : Hp} {h : Heap} {a C d : Addr} {oe : Obj} {vs : Array Value} (e : h.get? a = some oe) (z : Zc (.ref C) (some d) oe) (k : oe.data = .fields vs) : ObjOk P w H h a (ErrD C d a) :=
  ⟨⟨oe, vs, e, z, k⟩, ⟨oe, e⟩, fun _ _ ⟨o, v, q, r⟩ k => ⟨o, v, k o q, r⟩⟩
/-- an error of the class at C stands at a, with the one field f or with none -/
inductive IsErr (H : Hp) (a C : Addr) : Prop
  | bare (h : H a = some (ExO (.ref C) a)) : IsErr H a C
  | with_ {d : Addr} {f : Str} {v : V} (h : H a = some (ErrD C d a)) (hd : H d = some (.xd [(f, v)])) : IsErr H a C
theorem relO_one {f : Str} {v : V} {u : Value} (r : RelV v u) (y : Str) : RelO (List.lookup y [(f, v)]) (if y = f then some u else none) := by
  by_cases h : y = f
  · rw [if_pos h, h, show List.lookup f [(f, v)] = some v by simp [List.lookup]]
    exact r
  · rw [if_neg h, show List.lookup y [(f, v)] = none by simp [List.lookup, show (y == f) = false by simpa using h]]
    trivial
section
variable {X : Cx} {C fI : Addr} {x f qual : Str} {B B9 newId initId : String} {bmB bmF : List Value}
/-- what a call of such a class leaves, the error itself left out of the tracked heap -/
theorem made_inv {pins : List (Addr × Obj)} {σ : L2.St} {H1 : Hp} {hp h' : Heap} {g : Array GenState} {dr : Drawn} {tk tk' : Nat} {os : OsState} {e dx : Addr} {v : V} {u : Value} (I1 : Inv X pins σ H1 ⟨hp, g, dr, tk, os⟩) (M : Made hp h' e C dx f u) (rv : RelV v u) :
    H1 dx = none ∧ H1 e = none ∧ ∃ G' : Heap, (∀ b, b ≠ e → G'.get? b = h'.get? b) ∧ G'.get? e = none ∧ Inv X pins σ (upd H1 dx (.xd [(f, v)])) ⟨G', g, dr, tk', os⟩ := by
  obtain ⟨G', g1, g2⟩ := restrict h' fun b => decide (b ≠ e)
  have gk : ∀ b, b ≠ e → G'.get? b = h'.get? b := fun b hb => g1 b (decide_eq_true hb)
  have old : ∀ b o, hp.get? b = some o → G'.get? b = some o := fun b o q => (gk b (Nat.ne_of_lt (Nat.lt_of_lt_of_le (Heap.lt_size q) M.new))).trans (M.keep b o q)
  refine ⟨I1.hok.fresh M.dbig, I1.hok.fresh M.new, G', gk, g2 e (by simp), I1.laid (t' := tk') old M.dbig ?_⟩
  exact ⟨_, M.ns.at (fun o q => (gk dx M.dne).trans q), fun y => relO_one rv y⟩
/-- X(e) that is raised -/
theorem pmk_ini {a : Expr} {ta : TA} {p pos : Pos} {k : Nat} (T : IniT X.K X.mg x f qual C fI newId bmB) (FB : ExcBaseFacts B newId initId bmF) (ch : Chain B bmB) (SF : StoreFacts B9 bmB "object.__setattr__" "object") (FF : Fld f) (hr : Room k X.A) (ha : PA X [a] ta) (hg : Gl X x)
    (hdb : (x == ("__debug__" : Str)) = false := by decide) (he : starEach (a :: []) X.env = (false, eval a X.env) :: starEach [] X.env := by rfl) (hpl : (backTo pos (starEach [] X.env)).any (·.1) = false := by rfl) :
    PMk X (.Call (.Name x p) [a] [] pos) (fun σ H Q => ta σ H fun vs H1 => ∃ v, vs = [v] ∧ ∀ d, H1 d = none → Q (.ref C) (some d) (upd H1 d (.xd [(f, v)]))) := by
  intro pins s σ H Q I h
  refine wpAny_Call_Name_kw (ld_glob I hg T.gC ?_ hdb)
  refine PySem.W.callWith_K (h₀ := X.base) I.ok.mod.kin T.kC (thn (ha.run pos pins s σ H _ I h) fun us s1 hh => ?_) he hpl
  obtain ⟨vs, H1, I1, r1, v, rfl, q1⟩ := hh
  obtain ⟨u, rfl, rv⟩ := vals1 r1
  refine ⟨I1.kIn, ?_⟩
  obtain ⟨hp, g, dr, tk, os⟩ := s1
  refine wpAny_call (ini_made T FB ch SF FF I1.kIn I1.nolimit (by have := hr.dp; omega) fun h' tk' e d M => ?_)
  obtain ⟨nd, ne, G', gk, ge, J⟩ := made_inv (tk' := tk') I1 M rv
  obtain ⟨t1, hoe⟩ := M.obj
  refine ⟨e, _, _, ⟨G', g, dr, tk', os⟩, _, .ref C, some d, rfl, J, fun b o q => ?_, ge, hoe, ⟨rfl, rfl⟩, rfl, rfl, ?_, rfl, I1.bare, raises_own T.exC T.tyC, q1 d nd⟩
  · by_cases hb : b = e
    · have q' : G'.get? b = some o := q
      rw [hb, ge] at q'
      cases q'
    · exact (gk b hb).symm.trans q
  · rw [upd_ne M.dne.symm]
    exact ne
/-- X(e) as a value -/
theorem pe_ini {a : Expr} {ta : TA} {p pos : Pos} {k : Nat} (T : IniT X.K X.mg x f qual C fI newId bmB) (FB : ExcBaseFacts B newId initId bmF) (ch : Chain B bmB) (SF : StoreFacts B9 bmB "object.__setattr__" "object") (FF : Fld f) (hr : Room k X.A) (ha : PA X [a] ta) (hg : Gl X x)
    (hdb : (x == ("__debug__" : Str)) = false := by decide) (he : starEach (a :: []) X.env = (false, eval a X.env) :: starEach [] X.env := by rfl) (hpl : (backTo pos (starEach [] X.env)).any (·.1) = false := by rfl) :
    PE X (.Call (.Name x p) [a] [] pos) (fun σ H Q => ta σ H fun vs H1 => ∃ v, vs = [v] ∧ ∀ d e, H1 d = none → H1 e = none → d ≠ e → Q (.ref e) (upd (upd H1 d (.xd [(f, v)])) e (ErrD C d e))) := by
  refine ⟨fun pins s σ H Q I h => ?_⟩
  refine wpAny_Call_Name_kw (ld_glob I hg T.gC ?_ hdb)
  refine PySem.W.callWith_K (h₀ := X.base) I.ok.mod.kin T.kC (thn (ha.run pos pins s σ H _ I h) fun us s1 hh => ?_) he hpl
  obtain ⟨vs, H1, I1, r1, v, rfl, q1⟩ := hh
  obtain ⟨u, rfl, rv⟩ := vals1 r1
  refine ⟨I1.kIn, ?_⟩
  obtain ⟨hp, g, dr, tk, os⟩ := s1
  refine wpAny_call (ini_made T FB ch SF FF I1.kIn I1.nolimit (by have := hr.dp; omega) fun h' tk' e d M => ?_)
  obtain ⟨nd, ne, G', gk, ge, J⟩ := made_inv (tk' := tk') I1 M rv
  obtain ⟨t1, hoe⟩ := M.obj
  have k2 : ∀ b o, G'.get? b = some o → h'.get? b = some o := fun b o q => by
    by_cases hb : b = e
    · rw [hb, ge] at q
      cases q
    · exact (gk b hb).symm.trans q
  have ne2 : (upd H1 d (.xd [(f, v)])) e = none := by
    rw [upd_ne M.dne.symm]
    exact ne
  exact ⟨.ref e, _, J.laidN (t' := tk') k2 ge ne2 (errD_ok hoe ⟨rfl, rfl⟩ rfl), rfl, q1 d e nd ne M.dne⟩
/-- isinstance(e, c), e an error that is tracked -/
def rIsErr (K : PySem.W.Frag) : List V → Hp → VK → Prop := fun xs H Q => ∃ (a D : Addr) (c : V) (cv : Value) (b : Bool), xs = [.ref a, c] ∧ ClsV c cv ∧ IsErr H a D ∧ ExcC K D ∧ PySem.W.kitOne K (.ref D) cv = some b ∧ Q (.bl b) H
def DictAt (h : Heap) : Option Addr → Option Obj → Prop
  | some dx, some o => h.get? dx = some o
  | none, none => True
  | _, _ => False
theorem inst_zc {h : Heap} {a D : Addr} {d : Option Addr} {oe : Obj} {od : Option Obj} (e : h.get? a = some oe) (z : Zc (.ref D) d oe) (hv : ∃ vs, oe.data = .fields vs) (hd : DictAt h d od) : PySem.W.InstAt h a oe D od := by
  obtain ⟨vs, hv⟩ := hv
  obtain ⟨z1, z2⟩ := z
  refine ⟨e, z1, by unfold PySem.W.notCls; rw [hv], ?_⟩
  rw [z2]
  cases d <;> cases od <;> exact hd
theorem call_isErr : CallR X (.builtin "isinstance") (rIsErr X.K) := by
  intro pins s σ H xs us Q I r h
  obtain ⟨a, D, c, cv, b, rfl, hc, he, C, hk, q⟩ := h
  obtain ⟨u1, u2, rfl, r1, r2⟩ := vals2 r
  have e2 := hc.eq r2
  subst e2
  cases (show u1 = Value.ref a from r1)
  have J : ∃ ox, ∃ od, PySem.W.InstAt s.heap a ox D od := by
    cases he with
    | bare h =>
      obtain ⟨⟨oe, vs, e, z, d, _⟩, _⟩ := I.hok a _ h
      exact ⟨oe, none, inst_zc e z ⟨vs, d⟩ trivial⟩
    | @with_ d f v h hd =>
      obtain ⟨⟨oe, vs, e, z, k⟩, _⟩ := I.hok a _ h
      obtain ⟨mA, hn, _⟩ := (show ObjOk X.prog X.w H s.heap d (.xd [(f, v)]) from I.hok d _ hd)
      obtain ⟨od, ho, _⟩ := lookIn_ns hn
      exact ⟨oe, some od, inst_zc e z ⟨vs, k⟩ ho⟩
  obtain ⟨ox, od, J⟩ := J
  exact PySem.W.kia_one (kit_err (od := od) (ox := ox) C) I.kIn ⟨od, J⟩ hk (fun z => nomatch z) fun tk => ⟨.bl b, H, I.kept (t' := tk) fun _ _ z => z, rfl, q⟩
/-- e.f, e an error that is tracked -/
theorem pe_errF {e : Expr} {te : TE} {pos : Pos} (T : IniT X.K X.mg x f qual C fI newId bmB) (he : PE X e te) (hb : attributeBase e f X.env (eval e X.env) = eval e X.env := by rfl) :
    PE X (.Attribute e f pos) (fun σ H Q => te σ H fun y H1 => ∃ (a d : Addr) (v : V), y = .ref a ∧ H1 a = some (ErrD C d a) ∧ H1 d = some (.xd [(f, v)]) ∧ Q v H1) := by
  refine ⟨fun pins s σ H Q I h => ?_⟩
  refine attr_of hb (thn (he.run pins s σ H _ I h) fun u s1 hh => ?_)
  obtain ⟨y, H1, I1, ry, a, d, v, rfl, ha, hd, q⟩ := hh
  cases (show u = Value.ref a from ry)
  obtain ⟨⟨oe, vs, e1, z, k⟩, _⟩ := I1.hok a _ ha
  obtain ⟨mA, hn, hr⟩ := (show ObjOk X.prog X.w H1 s1.heap d (.xd [(f, v)]) from I1.hok d _ hd)
  obtain ⟨od, ho, hl⟩ := lookIn_ns hn
  obtain ⟨w', hw, rw'⟩ := RelO.some_of (v := v) (o := mA f) (by
    have := hr f
    rw [show List.lookup f [(f, v)] = some v by simp [List.lookup]] at this
    exact this)
  exact HandSPX.exc_get I1.kIn (inst_zc (od := some od) e1 z ⟨vs, k⟩ ho) T.ga T.gg T.exC (PySem.W.findObj_own T.hdC T.noN rfl (by rw [hl, hw])) (handed_of rw') ⟨v, H1, I1.tok _, rw', q⟩
end
end VK
/-! VKey -/
set_option maxRecDepth 100000
set_option maxHeartbeats 4000000
/-! what the model says of KeyError as the base of an own error -/
namespace VK
open PySem PySem.F
abbrev keyMro : List Value := [.type "KeyError", .type "LookupError", .type "Exception", .type "BaseException", .type "object"]
theorem store_KeyError : StoreFacts "KeyError" keyMro "object.__setattr__" "object" := by
  have look : typeLookup (.type "KeyError") "__setattr__" = pure (some (.builtin "object.__setattr__")) := by
    rw [typeLookup_type, builtinLookup_eq_fast]
    kernel_rfl
  have sub : isSubtype (.type "KeyError") (.type "object") = pure true := by
    rw [isSubtype_type]
    kernel_rfl
  exact {
    mro := by kernel_rfl
    slot := .of (owner := "object") (n := "__setattr__") look
      (by decide +kernel) (by decide +kernel) (by decide +kernel)
      (by first | exact .inl (by decide +kernel) | exact .inr (by decide +kernel)) sub
    entry := entry_object_sa
    kind := by decide +kernel
    split := by decide +kernel
    hasOwner := by decide +kernel
    args := fun a b c => by
      unfold argsOk
      kernel_rfl
    passes := fun self => by kernel_rfl }
end VK
/-! K01B -/
set_option maxRecDepth 100000
set_option maxHeartbeats 4000000
namespace VK
open PySem L2
abbrev sletters : Stmt := topS 26
abbrev skinds : Stmt := topS 27
abbrev sall : Stmt := topS 28
theorem scletters : FnScope ["_law_error", "_law_found"] ["_law_error"] (defScope sletters) := ⟨rfl, rfl, rfl, by decide +kernel, rfl, by decide +kernel, by decide +kernel⟩
theorem sckinds : FnScope ["_law_error", "_law_found"] ["_law_error"] (defScope skinds) := ⟨rfl, rfl, rfl, by decide +kernel, rfl, by decide +kernel, by decide +kernel⟩
theorem scall : FnScope ["_law_error"] ["_law_error"] (defScope sall) := ⟨rfl, rfl, rfl, by decide +kernel, rfl, by decide +kernel, by decide +kernel⟩
/-- where the classes stand -/
structure ErrN (mg : Str → Option Value) (c : Nat → Addr) : Prop where
  gInvalidDisc : mg "InvalidDisc" = some (.ref (c 0))
  gInvalidPairing : mg "InvalidPairing" = some (.ref (c 1))
  gInvalidLeaning : mg "InvalidLeaning" = some (.ref (c 2))
  gInvalidOrder : mg "InvalidOrder" = some (.ref (c 3))
  gInvalidSet : mg "InvalidSet" = some (.ref (c 4))
  gInvalidNecklace : mg "InvalidNecklace" = some (.ref (c 5))
  gInvalidDiagram : mg "InvalidDiagram" = some (.ref (c 6))
  gInvalidMove : mg "InvalidMove" = some (.ref (c 7))
  gInvalidCollection : mg "InvalidCollection" = some (.ref (c 8))
  gInvalidNumbers : mg "InvalidNumbers" = some (.ref (c 9))
  gInvalidPoint : mg "InvalidPoint" = some (.ref (c 10))
  gInvalidMatrix : mg "InvalidMatrix" = some (.ref (c 11))
  gInvalidOperation : mg "InvalidOperation" = some (.ref (c 12))
  gParseError : mg "ParseError" = some (.ref (c 13))
  gUnknownName : mg "UnknownName" = some (.ref (c 14))
  gInvalidNumber : mg "InvalidNumber" = some (.ref (c 15))
  gNothingToUndo : mg "NothingToUndo" = some (.ref (c 16))
  gTooMany : mg "TooMany" = some (.ref (c 17))
  gRefused : mg "Refused" = some (.ref (c 18))
  gDiscError : mg "DiscError" = some (.ref (c 19))
  nValueError : mg "ValueError" = none
  nKeyError : mg "KeyError" = none
  nIndexError : mg "IndexError" = none
  nLookupError : mg "LookupError" = none
  nRuntimeError : mg "RuntimeError" = none
  nOverflowError : mg "OverflowError" = none
  nArithmeticError : mg "ArithmeticError" = none
/-- a text, or nothing -/
abbrev pc (z : Str) (k : Bool) : Str := if k = true then z else Str.empty
theorem pl {z : Str} {k : Bool} : (if k = true then z else Str.empty).length ≤ z.length := by
  cases k
  · exact Nat.zero_le _
  · exact Nat.le_refl _
theorem ap {s t : Str} {m n : Nat} (h1 : s.length ≤ m) (h2 : t.length ≤ n) : (s ++ t).length ≤ m + n := by
  rw [strLen_append]
  omega
theorem sz {s t : Str} {m n : Nat} (h1 : s.length ≤ m) (h2 : t.length ≤ n) (h : m + n ≤ 1000) : s.length + t.length ≤ sizeLine := by
  have : (1000 : Nat) ≤ sizeLine := by decide
  omega
/-- the answers of isinstance for the errors of the class at D -/
abbrev ltext (b : Nat → Bool) : Str := ((((((((((((pc "a" (b 0) ++ pc "b" (b 1)) ++ pc "c" (b 2)) ++ pc "d" (b 3)) ++ pc "e" (b 4)) ++ pc "f" (b 5)) ++ pc "g" (b 6)) ++ pc "h" (b 7)) ++ pc "i" (b 8)) ++ pc "j" (b 9)) ++ pc "k" (b 10)) ++ pc "l" (b 11)) ++ pc "m" (b 12))
abbrev ktext (b : Nat → Bool) : Str := (((((((((((((pc "P" (b 0) ++ pc "U" (b 1)) ++ pc "N" (b 2)) ++ pc "Z" (b 3)) ++ pc "M" (b 4)) ++ pc "R" (b 5)) ++ pc " disc" (b 6)) ++ pc " value" (b 7)) ++ pc " key" (b 8)) ++ pc " index" (b 9)) ++ pc " lookup" (b 10)) ++ pc " runtime" (b 11)) ++ pc " overflow" (b 12)) ++ pc " arithmetic" (b 13))
structure LAns (K : PySem.W.Frag) (c : Nat → Addr) (D : Addr) (b : Nat → Bool) : Prop where
  k0 : PySem.W.kitOne K (.ref D) (.ref (c 0)) = some (b 0)
  k1 : PySem.W.kitOne K (.ref D) (.ref (c 1)) = some (b 1)
  k2 : PySem.W.kitOne K (.ref D) (.ref (c 2)) = some (b 2)
  k3 : PySem.W.kitOne K (.ref D) (.ref (c 3)) = some (b 3)
  k4 : PySem.W.kitOne K (.ref D) (.ref (c 4)) = some (b 4)
  k5 : PySem.W.kitOne K (.ref D) (.ref (c 5)) = some (b 5)
  k6 : PySem.W.kitOne K (.ref D) (.ref (c 6)) = some (b 6)
  k7 : PySem.W.kitOne K (.ref D) (.ref (c 7)) = some (b 7)
  k8 : PySem.W.kitOne K (.ref D) (.ref (c 8)) = some (b 8)
  k9 : PySem.W.kitOne K (.ref D) (.ref (c 9)) = some (b 9)
  k10 : PySem.W.kitOne K (.ref D) (.ref (c 10)) = some (b 10)
  k11 : PySem.W.kitOne K (.ref D) (.ref (c 11)) = some (b 11)
  k12 : PySem.W.kitOne K (.ref D) (.ref (c 12)) = some (b 12)
structure KAns (K : PySem.W.Frag) (c : Nat → Addr) (D : Addr) (b : Nat → Bool) : Prop where
  k0 : PySem.W.kitOne K (.ref D) (.ref (c 13)) = some (b 0)
  k1 : PySem.W.kitOne K (.ref D) (.ref (c 14)) = some (b 1)
  k2 : PySem.W.kitOne K (.ref D) (.ref (c 15)) = some (b 2)
  k3 : PySem.W.kitOne K (.ref D) (.ref (c 16)) = some (b 3)
  k4 : PySem.W.kitOne K (.ref D) (.ref (c 17)) = some (b 4)
  k5 : PySem.W.kitOne K (.ref D) (.ref (c 18)) = some (b 5)
  k6 : PySem.W.kitOne K (.ref D) (.ref (c 19)) = some (b 6)
  k7 : PySem.W.kitOne K (.ref D) (.type "ValueError") = some (b 7)
  k8 : PySem.W.kitOne K (.ref D) (.type "KeyError") = some (b 8)
  k9 : PySem.W.kitOne K (.ref D) (.type "IndexError") = some (b 9)
  k10 : PySem.W.kitOne K (.ref D) (.type "LookupError") = some (b 10)
  k11 : PySem.W.kitOne K (.ref D) (.type "RuntimeError") = some (b 11)
  k12 : PySem.W.kitOne K (.ref D) (.type "OverflowError") = some (b 12)
  k13 : PySem.W.kitOne K (.ref D) (.type "ArithmeticError") = some (b 13)
def spLet (K : PySem.W.Frag) (c : Nat → Addr) : Sp := fun vs H Q _ => ∃ (a D : Addr) (b : Nat → Bool), vs = [.ref a] ∧ IsErr H a D ∧ ExcC K D ∧ LAns K c D b ∧ Q (.str (ltext b)) H
def spKin (K : PySem.W.Frag) (c : Nat → Addr) : Sp := fun vs H Q _ => ∃ (a D : Addr) (b : Nat → Bool), vs = [.ref a] ∧ IsErr H a D ∧ ExcC K D ∧ KAns K c D b ∧ Q (.str (ktext b)) H
section
variable {P : Program} {w : World} {K : PySem.W.Frag} {mg : Str → Option Value} {base : Heap} {c : Nat → Addr}
theorem ok_letters {f : Addr} {fd : FuncData} (F : Fun K "_law_letters" "_law_letters" sletters f fd) (B : Blt mg) (T : ErrN mg c) : FnOk P w K mg base CX0 1 f fd ["_law_error"] (spLet K c) := by
  refine F.ok scletters (fun vs H Q E h => ?_) (fun cdv A outer s H vs Q E hr h => ?_)
  · obtain ⟨a, D, b, rfl, _⟩ := h
    rfl
  · obtain ⟨a, D, b, rfl, hE, hC, ⟨k0, k1, k2, k3, k4, k5, k6, k7, k8, k9, k10, k11, k12⟩, k⟩ := h
    refine ⟨_, (pss_cons (ps_set (i := 1) scletters.nd rfl (Or.inl rfl) (pe_op op_add_str (pe_op op_times pe_str (pe_callTy call_int1 (by rfl) B.n_int (by decide +kernel) (pa_cons (pe_callB call_isErr (by rfl) B.n_isinstance (by decide +kernel) (pa_cons (pv 0) (pa_cons (pe_glob (v := .ref (c 0)) rfl T.gInvalidDisc rfl) pa_nil))) pa_nil))) (pe_op op_times pe_str (pe_callTy call_int1 (by rfl) B.n_int (by decide +kernel) (pa_cons (pe_callB call_isErr (by rfl) B.n_isinstance (by decide +kernel) (pa_cons (pv 0) (pa_cons (pe_glob (v := .ref (c 1)) rfl T.gInvalidPairing rfl) pa_nil))) pa_nil)))))
      (pss_cons (ps_set (i := 1) scletters.nd rfl (Or.inl rfl) (pe_op op_add_str (pe_op op_add_str (pv 1) (pe_op op_times pe_str (pe_callTy call_int1 (by rfl) B.n_int (by decide +kernel) (pa_cons (pe_callB call_isErr (by rfl) B.n_isinstance (by decide +kernel) (pa_cons (pv 0) (pa_cons (pe_glob (v := .ref (c 2)) rfl T.gInvalidLeaning rfl) pa_nil))) pa_nil)))) (pe_op op_times pe_str (pe_callTy call_int1 (by rfl) B.n_int (by decide +kernel) (pa_cons (pe_callB call_isErr (by rfl) B.n_isinstance (by decide +kernel) (pa_cons (pv 0) (pa_cons (pe_glob (v := .ref (c 3)) rfl T.gInvalidOrder rfl) pa_nil))) pa_nil)))))
      (pss_cons (ps_set (i := 1) scletters.nd rfl (Or.inl rfl) (pe_op op_add_str (pe_op op_add_str (pv 1) (pe_op op_times pe_str (pe_callTy call_int1 (by rfl) B.n_int (by decide +kernel) (pa_cons (pe_callB call_isErr (by rfl) B.n_isinstance (by decide +kernel) (pa_cons (pv 0) (pa_cons (pe_glob (v := .ref (c 4)) rfl T.gInvalidSet rfl) pa_nil))) pa_nil)))) (pe_op op_times pe_str (pe_callTy call_int1 (by rfl) B.n_int (by decide +kernel) (pa_cons (pe_callB call_isErr (by rfl) B.n_isinstance (by decide +kernel) (pa_cons (pv 0) (pa_cons (pe_glob (v := .ref (c 5)) rfl T.gInvalidNecklace rfl) pa_nil))) pa_nil)))))
      (pss_cons (ps_set (i := 1) scletters.nd rfl (Or.inl rfl) (pe_op op_add_str (pe_op op_add_str (pv 1) (pe_op op_times pe_str (pe_callTy call_int1 (by rfl) B.n_int (by decide +kernel) (pa_cons (pe_callB call_isErr (by rfl) B.n_isinstance (by decide +kernel) (pa_cons (pv 0) (pa_cons (pe_glob (v := .ref (c 6)) rfl T.gInvalidDiagram rfl) pa_nil))) pa_nil)))) (pe_op op_times pe_str (pe_callTy call_int1 (by rfl) B.n_int (by decide +kernel) (pa_cons (pe_callB call_isErr (by rfl) B.n_isinstance (by decide +kernel) (pa_cons (pv 0) (pa_cons (pe_glob (v := .ref (c 7)) rfl T.gInvalidMove rfl) pa_nil))) pa_nil)))))
      (pss_cons (ps_set (i := 1) scletters.nd rfl (Or.inl rfl) (pe_op op_add_str (pe_op op_add_str (pv 1) (pe_op op_times pe_str (pe_callTy call_int1 (by rfl) B.n_int (by decide +kernel) (pa_cons (pe_callB call_isErr (by rfl) B.n_isinstance (by decide +kernel) (pa_cons (pv 0) (pa_cons (pe_glob (v := .ref (c 8)) rfl T.gInvalidCollection rfl) pa_nil))) pa_nil)))) (pe_op op_times pe_str (pe_callTy call_int1 (by rfl) B.n_int (by decide +kernel) (pa_cons (pe_callB call_isErr (by rfl) B.n_isinstance (by decide +kernel) (pa_cons (pv 0) (pa_cons (pe_glob (v := .ref (c 9)) rfl T.gInvalidNumbers rfl) pa_nil))) pa_nil)))))
      (pss_cons (ps_set (i := 1) scletters.nd rfl (Or.inl rfl) (pe_op op_add_str (pe_op op_add_str (pv 1) (pe_op op_times pe_str (pe_callTy call_int1 (by rfl) B.n_int (by decide +kernel) (pa_cons (pe_callB call_isErr (by rfl) B.n_isinstance (by decide +kernel) (pa_cons (pv 0) (pa_cons (pe_glob (v := .ref (c 10)) rfl T.gInvalidPoint rfl) pa_nil))) pa_nil)))) (pe_op op_times pe_str (pe_callTy call_int1 (by rfl) B.n_int (by decide +kernel) (pa_cons (pe_callB call_isErr (by rfl) B.n_isinstance (by decide +kernel) (pa_cons (pv 0) (pa_cons (pe_glob (v := .ref (c 11)) rfl T.gInvalidMatrix rfl) pa_nil))) pa_nil)))))
      (pss_one (ps_ret (pe_op op_add_str (pv 1) (pe_op op_times pe_str (pe_callTy call_int1 (by rfl) B.n_int (by decide +kernel) (pa_cons (pe_callB call_isErr (by rfl) B.n_isinstance (by decide +kernel) (pa_cons (pv 0) (pa_cons (pe_glob (v := .ref (c 12)) rfl T.gInvalidOperation rfl) pa_nil))) pa_nil)))))))))))), ?_⟩
    exact ⟨_, rfl, a, D, _, _, b 0, rfl, .own _, hE, hC, k0, .inr ⟨_, rfl, _, _, rfl, rfl, _, rfl, a, D, _, _, b 1, rfl, .own _, hE, hC, k1, .inr ⟨_, rfl, _, _, rfl, rfl, _, _, rfl, rfl, sz pl pl (by decide +kernel), 
      _, rfl, _, rfl, a, D, _, _, b 2, rfl, .own _, hE, hC, k2, .inr ⟨_, rfl, _, _, rfl, rfl, _, _, rfl, rfl, sz (ap pl pl) pl (by decide +kernel), _, rfl, a, D, _, _, b 3, rfl, .own _, hE, hC, k3, .inr ⟨_, rfl, _, _, rfl, rfl, _, _, rfl, rfl, sz (ap (ap pl pl) pl) pl (by decide +kernel), 
      _, rfl, _, rfl, a, D, _, _, b 4, rfl, .own _, hE, hC, k4, .inr ⟨_, rfl, _, _, rfl, rfl, _, _, rfl, rfl, sz (ap (ap (ap pl pl) pl) pl) pl (by decide +kernel), _, rfl, a, D, _, _, b 5, rfl, .own _, hE, hC, k5, .inr ⟨_, rfl, _, _, rfl, rfl, _, _, rfl, rfl, sz (ap (ap (ap (ap pl pl) pl) pl) pl) pl (by decide +kernel), 
      _, rfl, _, rfl, a, D, _, _, b 6, rfl, .own _, hE, hC, k6, .inr ⟨_, rfl, _, _, rfl, rfl, _, _, rfl, rfl, sz (ap (ap (ap (ap (ap pl pl) pl) pl) pl) pl) pl (by decide +kernel), _, rfl, a, D, _, _, b 7, rfl, .own _, hE, hC, k7, .inr ⟨_, rfl, _, _, rfl, rfl, _, _, rfl, rfl, sz (ap (ap (ap (ap (ap (ap pl pl) pl) pl) pl) pl) pl) pl (by decide +kernel), 
      _, rfl, _, rfl, a, D, _, _, b 8, rfl, .own _, hE, hC, k8, .inr ⟨_, rfl, _, _, rfl, rfl, _, _, rfl, rfl, sz (ap (ap (ap (ap (ap (ap (ap pl pl) pl) pl) pl) pl) pl) pl) pl (by decide +kernel), _, rfl, a, D, _, _, b 9, rfl, .own _, hE, hC, k9, .inr ⟨_, rfl, _, _, rfl, rfl, _, _, rfl, rfl, sz (ap (ap (ap (ap (ap (ap (ap (ap pl pl) pl) pl) pl) pl) pl) pl) pl) pl (by decide +kernel), 
      _, rfl, _, rfl, a, D, _, _, b 10, rfl, .own _, hE, hC, k10, .inr ⟨_, rfl, _, _, rfl, rfl, _, _, rfl, rfl, sz (ap (ap (ap (ap (ap (ap (ap (ap (ap pl pl) pl) pl) pl) pl) pl) pl) pl) pl) pl (by decide +kernel), _, rfl, a, D, _, _, b 11, rfl, .own _, hE, hC, k11, .inr ⟨_, rfl, _, _, rfl, rfl, _, _, rfl, rfl, sz (ap (ap (ap (ap (ap (ap (ap (ap (ap (ap pl pl) pl) pl) pl) pl) pl) pl) pl) pl) pl) pl (by decide +kernel), 
      _, rfl, _, rfl, a, D, _, _, b 12, rfl, .own _, hE, hC, k12, .inr ⟨_, rfl, _, _, rfl, rfl, _, _, rfl, rfl, sz (ap (ap (ap (ap (ap (ap (ap (ap (ap (ap (ap pl pl) pl) pl) pl) pl) pl) pl) pl) pl) pl) pl) pl (by decide +kernel), 
      k⟩⟩⟩⟩⟩⟩⟩⟩⟩⟩⟩⟩⟩⟩
theorem ok_kinds {f : Addr} {fd : FuncData} (F : Fun K "_law_kinds" "_law_kinds" skinds f fd) (B : Blt mg) (T : ErrN mg c) : FnOk P w K mg base CX0 1 f fd ["_law_error"] (spKin K c) := by
  refine F.ok sckinds (fun vs H Q E h => ?_) (fun cdv A outer s H vs Q E hr h => ?_)
  · obtain ⟨a, D, b, rfl, _⟩ := h
    rfl
  · obtain ⟨a, D, b, rfl, hE, hC, ⟨k0, k1, k2, k3, k4, k5, k6, k7, k8, k9, k10, k11, k12, k13⟩, k⟩ := h
    refine ⟨_, (pss_cons (ps_set (i := 1) sckinds.nd rfl (Or.inl rfl) (pe_op op_add_str (pe_op op_times pe_str (pe_callTy call_int1 (by rfl) B.n_int (by decide +kernel) (pa_cons (pe_callB call_isErr (by rfl) B.n_isinstance (by decide +kernel) (pa_cons (pv 0) (pa_cons (pe_glob (v := .ref (c 13)) rfl T.gParseError rfl) pa_nil))) pa_nil))) (pe_op op_times pe_str (pe_callTy call_int1 (by rfl) B.n_int (by decide +kernel) (pa_cons (pe_callB call_isErr (by rfl) B.n_isinstance (by decide +kernel) (pa_cons (pv 0) (pa_cons (pe_glob (v := .ref (c 14)) rfl T.gUnknownName rfl) pa_nil))) pa_nil)))))
      (pss_cons (ps_set (i := 1) sckinds.nd rfl (Or.inl rfl) (pe_op op_add_str (pe_op op_add_str (pv 1) (pe_op op_times pe_str (pe_callTy call_int1 (by rfl) B.n_int (by decide +kernel) (pa_cons (pe_callB call_isErr (by rfl) B.n_isinstance (by decide +kernel) (pa_cons (pv 0) (pa_cons (pe_glob (v := .ref (c 15)) rfl T.gInvalidNumber rfl) pa_nil))) pa_nil)))) (pe_op op_times pe_str (pe_callTy call_int1 (by rfl) B.n_int (by decide +kernel) (pa_cons (pe_callB call_isErr (by rfl) B.n_isinstance (by decide +kernel) (pa_cons (pv 0) (pa_cons (pe_glob (v := .ref (c 16)) rfl T.gNothingToUndo rfl) pa_nil))) pa_nil)))))
      (pss_cons (ps_set (i := 1) sckinds.nd rfl (Or.inl rfl) (pe_op op_add_str (pe_op op_add_str (pv 1) (pe_op op_times pe_str (pe_callTy call_int1 (by rfl) B.n_int (by decide +kernel) (pa_cons (pe_callB call_isErr (by rfl) B.n_isinstance (by decide +kernel) (pa_cons (pv 0) (pa_cons (pe_glob (v := .ref (c 17)) rfl T.gTooMany rfl) pa_nil))) pa_nil)))) (pe_op op_times pe_str (pe_callTy call_int1 (by rfl) B.n_int (by decide +kernel) (pa_cons (pe_callB call_isErr (by rfl) B.n_isinstance (by decide +kernel) (pa_cons (pv 0) (pa_cons (pe_glob (v := .ref (c 18)) rfl T.gRefused rfl) pa_nil))) pa_nil)))))
      (pss_cons (ps_set (i := 1) sckinds.nd rfl (Or.inl rfl) (pe_op op_add_str (pe_op op_add_str (pv 1) (pe_op op_times pe_str (pe_callTy call_int1 (by rfl) B.n_int (by decide +kernel) (pa_cons (pe_callB call_isErr (by rfl) B.n_isinstance (by decide +kernel) (pa_cons (pv 0) (pa_cons (pe_glob (v := .ref (c 19)) rfl T.gDiscError rfl) pa_nil))) pa_nil)))) (pe_op op_times pe_str (pe_callTy call_int1 (by rfl) B.n_int (by decide +kernel) (pa_cons (pe_callB call_isErr (by rfl) B.n_isinstance (by decide +kernel) (pa_cons (pv 0) (pa_cons (pe_bltn (v := .ty "ValueError") (by rfl) T.nValueError (by decide +kernel) rfl) pa_nil))) pa_nil)))))
      (pss_cons (ps_set (i := 1) sckinds.nd rfl (Or.inl rfl) (pe_op op_add_str (pe_op op_add_str (pv 1) (pe_op op_times pe_str (pe_callTy call_int1 (by rfl) B.n_int (by decide +kernel) (pa_cons (pe_callB call_isErr (by rfl) B.n_isinstance (by decide +kernel) (pa_cons (pv 0) (pa_cons (pe_bltn (v := .ty "KeyError") (by rfl) T.nKeyError (by decide +kernel) rfl) pa_nil))) pa_nil)))) (pe_op op_times pe_str (pe_callTy call_int1 (by rfl) B.n_int (by decide +kernel) (pa_cons (pe_callB call_isErr (by rfl) B.n_isinstance (by decide +kernel) (pa_cons (pv 0) (pa_cons (pe_bltn (v := .ty "IndexError") (by rfl) T.nIndexError (by decide +kernel) rfl) pa_nil))) pa_nil)))))
      (pss_cons (ps_set (i := 1) sckinds.nd rfl (Or.inl rfl) (pe_op op_add_str (pv 1) (pe_op op_times pe_str (pe_callTy call_int1 (by rfl) B.n_int (by decide +kernel) (pa_cons (pe_callB call_isErr (by rfl) B.n_isinstance (by decide +kernel) (pa_cons (pv 0) (pa_cons (pe_bltn (v := .ty "LookupError") (by rfl) T.nLookupError (by decide +kernel) rfl) pa_nil))) pa_nil)))))
      (pss_cons (ps_set (i := 1) sckinds.nd rfl (Or.inl rfl) (pe_op op_add_str (pv 1) (pe_op op_times pe_str (pe_callTy call_int1 (by rfl) B.n_int (by decide +kernel) (pa_cons (pe_callB call_isErr (by rfl) B.n_isinstance (by decide +kernel) (pa_cons (pv 0) (pa_cons (pe_bltn (v := .ty "RuntimeError") (by rfl) T.nRuntimeError (by decide +kernel) rfl) pa_nil))) pa_nil)))))
      (pss_cons (ps_set (i := 1) sckinds.nd rfl (Or.inl rfl) (pe_op op_add_str (pv 1) (pe_op op_times pe_str (pe_callTy call_int1 (by rfl) B.n_int (by decide +kernel) (pa_cons (pe_callB call_isErr (by rfl) B.n_isinstance (by decide +kernel) (pa_cons (pv 0) (pa_cons (pe_bltn (v := .ty "OverflowError") (by rfl) T.nOverflowError (by decide +kernel) rfl) pa_nil))) pa_nil)))))
      (pss_one (ps_ret (pe_op op_add_str (pv 1) (pe_op op_times pe_str (pe_callTy call_int1 (by rfl) B.n_int (by decide +kernel) (pa_cons (pe_callB call_isErr (by rfl) B.n_isinstance (by decide +kernel) (pa_cons (pv 0) (pa_cons (pe_bltn (v := .ty "ArithmeticError") (by rfl) T.nArithmeticError (by decide +kernel) rfl) pa_nil))) pa_nil)))))))))))))), ?_⟩
    exact ⟨_, rfl, a, D, _, _, b 0, rfl, .own _, hE, hC, k0, .inr ⟨_, rfl, _, _, rfl, rfl, _, rfl, a, D, _, _, b 1, rfl, .own _, hE, hC, k1, .inr ⟨_, rfl, _, _, rfl, rfl, _, _, rfl, rfl, sz pl pl (by decide +kernel), 
      _, rfl, _, rfl, a, D, _, _, b 2, rfl, .own _, hE, hC, k2, .inr ⟨_, rfl, _, _, rfl, rfl, _, _, rfl, rfl, sz (ap pl pl) pl (by decide +kernel), _, rfl, a, D, _, _, b 3, rfl, .own _, hE, hC, k3, .inr ⟨_, rfl, _, _, rfl, rfl, _, _, rfl, rfl, sz (ap (ap pl pl) pl) pl (by decide +kernel), 
      _, rfl, _, rfl, a, D, _, _, b 4, rfl, .own _, hE, hC, k4, .inr ⟨_, rfl, _, _, rfl, rfl, _, _, rfl, rfl, sz (ap (ap (ap pl pl) pl) pl) pl (by decide +kernel), _, rfl, a, D, _, _, b 5, rfl, .own _, hE, hC, k5, .inr ⟨_, rfl, _, _, rfl, rfl, _, _, rfl, rfl, sz (ap (ap (ap (ap pl pl) pl) pl) pl) pl (by decide +kernel), 
      _, rfl, _, rfl, a, D, _, _, b 6, rfl, .own _, hE, hC, k6, .inr ⟨_, rfl, _, _, rfl, rfl, _, _, rfl, rfl, sz (ap (ap (ap (ap (ap pl pl) pl) pl) pl) pl) pl (by decide +kernel), _, rfl, a, D, _, _, b 7, rfl, .ty _, hE, hC, k7, .inr ⟨_, rfl, _, _, rfl, rfl, _, _, rfl, rfl, sz (ap (ap (ap (ap (ap (ap pl pl) pl) pl) pl) pl) pl) pl (by decide +kernel), 
      _, rfl, _, rfl, a, D, _, _, b 8, rfl, .ty _, hE, hC, k8, .inr ⟨_, rfl, _, _, rfl, rfl, _, _, rfl, rfl, sz (ap (ap (ap (ap (ap (ap (ap pl pl) pl) pl) pl) pl) pl) pl) pl (by decide +kernel), _, rfl, a, D, _, _, b 9, rfl, .ty _, hE, hC, k9, .inr ⟨_, rfl, _, _, rfl, rfl, _, _, rfl, rfl, sz (ap (ap (ap (ap (ap (ap (ap (ap pl pl) pl) pl) pl) pl) pl) pl) pl) pl (by decide +kernel), 
      _, rfl, _, rfl, a, D, _, _, b 10, rfl, .ty _, hE, hC, k10, .inr ⟨_, rfl, _, _, rfl, rfl, _, _, rfl, rfl, sz (ap (ap (ap (ap (ap (ap (ap (ap (ap pl pl) pl) pl) pl) pl) pl) pl) pl) pl) pl (by decide +kernel), 
      _, rfl, _, rfl, a, D, _, _, b 11, rfl, .ty _, hE, hC, k11, .inr ⟨_, rfl, _, _, rfl, rfl, _, _, rfl, rfl, sz (ap (ap (ap (ap (ap (ap (ap (ap (ap (ap pl pl) pl) pl) pl) pl) pl) pl) pl) pl) pl) pl (by decide +kernel), 
      _, rfl, _, rfl, a, D, _, _, b 12, rfl, .ty _, hE, hC, k12, .inr ⟨_, rfl, _, _, rfl, rfl, _, _, rfl, rfl, sz (ap (ap (ap (ap (ap (ap (ap (ap (ap (ap (ap pl pl) pl) pl) pl) pl) pl) pl) pl) pl) pl) pl) pl (by decide +kernel), 
      _, rfl, _, rfl, a, D, _, _, b 13, rfl, .ty _, hE, hC, k13, .inr ⟨_, rfl, _, _, rfl, rfl, _, _, rfl, rfl, sz (ap (ap (ap (ap (ap (ap (ap (ap (ap (ap (ap (ap pl pl) pl) pl) pl) pl) pl) pl) pl) pl) pl) pl) pl) pl (by decide +kernel), 
      k⟩⟩⟩⟩⟩⟩⟩⟩⟩⟩⟩⟩⟩⟩⟩
end
end VK
/-! K01C -/
set_option maxRecDepth 100000
set_option maxHeartbeats 4000000
namespace VK
open PySem L2
/-! ### what stays -/
theorem sm {H : Hp} {p : Addr} {o : HO} (n : H p = none) : Same H (upd H p o) := fun b u e => by
  rw [upd_ne (ne_of_none e n)]
  exact e
theorem IsErr.same {H H' : Hp} {a C : Addr} (h : IsErr H a C) (s : Same H H') : IsErr H' a C := by
  cases h with
  | bare h => exact .bare (s _ _ h)
  | with_ h hd => exact .with_ (s _ _ h) (s _ _ hd)
theorem sqT_same {K : PySem.W.Frag} {H H' : Hp} {a : Addr} {xs : List V} (e : Same H H') (h : SqT K H a xs) : SqT K H' a xs := by
  rcases h with (h | ⟨o, h⟩) | h
  · exact .inl (.inl (e _ _ h))
  · exact .inl (.inr ⟨o, e _ _ h⟩)
  · exact .inr h
mutual
theorem DR.same {K : PySem.W.Frag} {H H' : Hp} (e : Same H H') : ∀ {v : V} {d : PyData}, DR K H v d → DR K H' v d
  | _, _, .non => .non
  | _, _, .bl b => .bl b
  | _, _, .int i => .int i
  | _, _, .str x => .str x
  | _, _, .lst h r => .lst (e.seq h) (DRs.same e r)
  | _, _, .tup h r => .tup (sqT_same e h) (DRs.same e r)
  | _, _, .dic h r => .dic (e _ _ h) (DRs.same e r)
theorem DRs.same {K : PySem.W.Frag} {H H' : Hp} (e : Same H H') : ∀ {vs : List V} {ds : List PyData}, DRs K H vs ds → DRs K H' vs ds
  | _, _, .nil => .nil
  | _, _, .cons h r => .cons (DR.same e h) (DRs.same e r)
end
abbrev smadeall : Stmt := topS 25
theorem scmadeall : FnScope ["_law_found"] [] (defScope smadeall) := ⟨rfl, rfl, rfl, by decide +kernel, rfl, by decide +kernel, by decide +kernel⟩
/-- the thirteen classes over DiscError without an own __init__ -/
structure Bare (K : PySem.W.Frag) (c : Nat → Addr) (n : Nat) : Prop where
  x : ∀ i, i < n → PySem.W.excIn K (c i) [.type "ValueError", .type "Exception", .type "BaseException", .type "object"] "ValueError.__new__" = true
  k : ∀ i, i < n → PySem.W.keepIn K (.ref (c i)) = true
def spMade (c : Nat → Addr) : Sp := fun vs H Q _ => vs = [] ∧ ∀ (p : Addr) (as : List Addr) (H' : Hp), Same H H' → as.length = 13 → (∀ (i : Nat) (a D : Addr), as[i]? = some a → D = c i → IsErr H' a D) → H' p = some (.lst (as.map V.ref)) → Q (.ref p) H'
def spAll (K : PySem.W.Frag) (c : Nat → Addr) : Sp := fun vs H Q _ => ∃ (a D : Addr) (b b' : Nat → Bool), vs = [.ref a] ∧ IsErr H a D ∧ ExcC K D ∧ LAns K c D b ∧ KAns K c D b' ∧ Q (.str (ltext b ++ ktext b')) H
section
variable {P : Program} {w : World} {K : PySem.W.Frag} {mg : Str → Option Value} {base : Heap} {c : Nat → Addr}
theorem ok_made {f : Addr} {fd : FuncData} (F : Fun K "_law_made_all" "_law_made_all" smadeall f fd) (T : ErrN mg c) (V : Bare K c 13) : FnOk P w K mg base CX0 1 f fd [] (spMade c) := by
  refine F.ok scmadeall (fun vs H Q E h => ?_) (fun cdv A outer s H vs Q E hr h => ?_)
  · obtain ⟨rfl, _⟩ := h
    rfl
  · obtain ⟨rfl, k⟩ := h
    refine ⟨_, (pss_cons (ps_set (i := 0) scmadeall.nd rfl (Or.inl rfl) (pe_lst (pa_cons (pe_exc1 PySem.F.excBase_ValueError (V.x 0 (by decide)) T.gInvalidDisc (V.k 0 (by decide)) rfl pe_str) (pa_cons (pe_exc1 PySem.F.excBase_ValueError (V.x 1 (by decide)) T.gInvalidPairing (V.k 1 (by decide)) rfl pe_str) (pa_cons (pe_exc1 PySem.F.excBase_ValueError (V.x 2 (by decide)) T.gInvalidLeaning (V.k 2 (by decide)) rfl pe_str) (pa_cons (pe_exc1 PySem.F.excBase_ValueError (V.x 3 (by decide)) T.gInvalidOrder (V.k 3 (by decide)) rfl pe_str) (pa_cons (pe_exc1 PySem.F.excBase_ValueError (V.x 4 (by decide)) T.gInvalidSet (V.k 4 (by decide)) rfl pe_str) pa_nil)))))))
      (pss_cons (ps_set (i := 0) scmadeall.nd rfl (Or.inl rfl) (pe_op op_cat (pv 0) (pe_lst (pa_cons (pe_exc1 PySem.F.excBase_ValueError (V.x 5 (by decide)) T.gInvalidNecklace (V.k 5 (by decide)) rfl pe_str) (pa_cons (pe_exc1 PySem.F.excBase_ValueError (V.x 6 (by decide)) T.gInvalidDiagram (V.k 6 (by decide)) rfl pe_str) (pa_cons (pe_exc1 PySem.F.excBase_ValueError (V.x 7 (by decide)) T.gInvalidMove (V.k 7 (by decide)) rfl pe_str) (pa_cons (pe_exc1 PySem.F.excBase_ValueError (V.x 8 (by decide)) T.gInvalidCollection (V.k 8 (by decide)) rfl pe_str) pa_nil)))))))
      (pss_one (ps_ret (pe_op op_cat (pv 0) (pe_lst (pa_cons (pe_exc1 PySem.F.excBase_ValueError (V.x 9 (by decide)) T.gInvalidNumbers (V.k 9 (by decide)) rfl pe_str) (pa_cons (pe_exc1 PySem.F.excBase_ValueError (V.x 10 (by decide)) T.gInvalidPoint (V.k 10 (by decide)) rfl pe_str) (pa_cons (pe_exc1 PySem.F.excBase_ValueError (V.x 11 (by decide)) T.gInvalidMatrix (V.k 11 (by decide)) rfl pe_str) (pa_cons (pe_exc1 PySem.F.excBase_ValueError (V.x 12 (by decide)) T.gInvalidOperation (V.k 12 (by decide)) rfl pe_str) pa_nil)))))))))), ?_⟩
    intro a0 n0 a1 n1 a2 n2 a3 n3 a4 n4
    refine ⟨by show 5 ≤ sizeLine; decide, fun l0 m0 => ⟨_, rfl, ?_⟩⟩
    intro a5 n5 a6 n6 a7 n7 a8 n8
    refine ⟨by show 4 ≤ sizeLine; decide, fun l1 m1 => ⟨_, _, _, _, rfl, rfl, ((((((sm n5).trans (sm n6)).trans (sm n7)).trans (sm n8)).trans (sm m1)) _ _ upd_same), upd_same, by show 9 ≤ sizeLine; decide, fun l2 m2 => ⟨_, rfl, ?_⟩⟩⟩
    intro a9 n9 a10 n10 a11 n11 a12 n12
    refine ⟨by show 4 ≤ sizeLine; decide, fun l3 m3 => ⟨_, _, _, _, rfl, rfl, ((((((sm n9).trans (sm n10)).trans (sm n11)).trans (sm n12)).trans (sm m3)) _ _ upd_same), upd_same, by show 13 ≤ sizeLine; decide, fun l4 m4 => ?_⟩⟩
    refine k l4 [a0, a1, a2, a3, a4, a5, a6, a7, a8, a9, a10, a11, a12] _ ((((((((((((((((((sm n0).trans (sm n1)).trans (sm n2)).trans (sm n3)).trans (sm n4)).trans (sm m0)).trans (sm n5)).trans (sm n6)).trans (sm n7)).trans (sm n8)).trans (sm m1)).trans (sm m2)).trans (sm n9)).trans (sm n10)).trans (sm n11)).trans (sm n12)).trans (sm m3)).trans (sm m4)) rfl (fun i a D h hD => ?_) upd_same
    match i, h with
    | 0, h => cases h; cases hD; exact (IsErr.bare upd_same).same (((((((((((((((((sm n1).trans (sm n2)).trans (sm n3)).trans (sm n4)).trans (sm m0)).trans (sm n5)).trans (sm n6)).trans (sm n7)).trans (sm n8)).trans (sm m1)).trans (sm m2)).trans (sm n9)).trans (sm n10)).trans (sm n11)).trans (sm n12)).trans (sm m3)).trans (sm m4))
    | 1, h => cases h; cases hD; exact (IsErr.bare upd_same).same ((((((((((((((((sm n2).trans (sm n3)).trans (sm n4)).trans (sm m0)).trans (sm n5)).trans (sm n6)).trans (sm n7)).trans (sm n8)).trans (sm m1)).trans (sm m2)).trans (sm n9)).trans (sm n10)).trans (sm n11)).trans (sm n12)).trans (sm m3)).trans (sm m4))
    | 2, h => cases h; cases hD; exact (IsErr.bare upd_same).same (((((((((((((((sm n3).trans (sm n4)).trans (sm m0)).trans (sm n5)).trans (sm n6)).trans (sm n7)).trans (sm n8)).trans (sm m1)).trans (sm m2)).trans (sm n9)).trans (sm n10)).trans (sm n11)).trans (sm n12)).trans (sm m3)).trans (sm m4))
    | 3, h => cases h; cases hD; exact (IsErr.bare upd_same).same ((((((((((((((sm n4).trans (sm m0)).trans (sm n5)).trans (sm n6)).trans (sm n7)).trans (sm n8)).trans (sm m1)).trans (sm m2)).trans (sm n9)).trans (sm n10)).trans (sm n11)).trans (sm n12)).trans (sm m3)).trans (sm m4))
    | 4, h => cases h; cases hD; exact (IsErr.bare upd_same).same (((((((((((((sm m0).trans (sm n5)).trans (sm n6)).trans (sm n7)).trans (sm n8)).trans (sm m1)).trans (sm m2)).trans (sm n9)).trans (sm n10)).trans (sm n11)).trans (sm n12)).trans (sm m3)).trans (sm m4))
    | 5, h => cases h; cases hD; exact (IsErr.bare upd_same).same (((((((((((sm n6).trans (sm n7)).trans (sm n8)).trans (sm m1)).trans (sm m2)).trans (sm n9)).trans (sm n10)).trans (sm n11)).trans (sm n12)).trans (sm m3)).trans (sm m4))
    | 6, h => cases h; cases hD; exact (IsErr.bare upd_same).same ((((((((((sm n7).trans (sm n8)).trans (sm m1)).trans (sm m2)).trans (sm n9)).trans (sm n10)).trans (sm n11)).trans (sm n12)).trans (sm m3)).trans (sm m4))
    | 7, h => cases h; cases hD; exact (IsErr.bare upd_same).same (((((((((sm n8).trans (sm m1)).trans (sm m2)).trans (sm n9)).trans (sm n10)).trans (sm n11)).trans (sm n12)).trans (sm m3)).trans (sm m4))
    | 8, h => cases h; cases hD; exact (IsErr.bare upd_same).same ((((((((sm m1).trans (sm m2)).trans (sm n9)).trans (sm n10)).trans (sm n11)).trans (sm n12)).trans (sm m3)).trans (sm m4))
    | 9, h => cases h; cases hD; exact (IsErr.bare upd_same).same (((((sm n10).trans (sm n11)).trans (sm n12)).trans (sm m3)).trans (sm m4))
    | 10, h => cases h; cases hD; exact (IsErr.bare upd_same).same ((((sm n11).trans (sm n12)).trans (sm m3)).trans (sm m4))
    | 11, h => cases h; cases hD; exact (IsErr.bare upd_same).same (((sm n12).trans (sm m3)).trans (sm m4))
    | 12, h => cases h; cases hD; exact (IsErr.bare upd_same).same ((sm m3).trans (sm m4))
    | n + 13, h => simp at h
theorem ok_all {f fL fK : Addr} {fd fdL fdK : FuncData} (F : Fun K "_law_all" "_law_all" sall f fd) (FL : Fun K "_law_letters" "_law_letters" sletters fL fdL) (FK : Fun K "_law_kinds" "_law_kinds" skinds fK fdK)
    (gL : mg "_law_letters" = some (.ref fL)) (gK : mg "_law_kinds" = some (.ref fK)) (bL : Binds K fdL ["_law_error"] []) (bK : Binds K fdK ["_law_error"] []) (B : Blt mg) (T : ErrN mg c) : FnOk P w K mg base CX0 2 f fd ["_law_error"] (spAll K c) := by
  have GL : FnOk P w K mg base CX0 1 fL fdL ["_law_error"] (spLet K c) := ok_letters FL B T
  have GK : FnOk P w K mg base CX0 1 fK fdK ["_law_error"] (spKin K c) := ok_kinds FK B T
  refine F.ok scall (fun vs H Q E h => ?_) (fun cdv A outer s H vs Q E hr h => ?_)
  · obtain ⟨a, D, b, b', rfl, _⟩ := h
    rfl
  · obtain ⟨a, D, b, b', rfl, hE, hC, hL, hK, k⟩ := h
    refine ⟨_, (pss_one (ps_ret (pe_op op_add_str (pe_call GL hr rfl gL FL.kp bL .nil pass0 (pa_cons (pv 0) pa_nil)) (pe_call GK hr rfl gK FK.kp bK .nil pass0 (pa_cons (pv 0) pa_nil))))), ?_⟩
    exact ⟨_, rfl, a, D, b, rfl, hE, hC, hL, _, rfl, a, D, b', rfl, hE, hC, hK, _, _, rfl, rfl, sz (ap (ap (ap (ap (ap (ap (ap (ap (ap (ap (ap (ap pl pl) pl) pl) pl) pl) pl) pl) pl) pl) pl) pl) pl) (ap (ap (ap (ap (ap (ap (ap (ap (ap (ap (ap (ap (ap pl pl) pl) pl) pl) pl) pl) pl) pl) pl) pl) pl) pl) pl) (by decide +kernel), k⟩
end
end VK
/-! K01D -/
set_option maxRecDepth 100000
set_option maxHeartbeats 4000000
namespace VK
open PySem L2
/-! ### the answers of isinstance, class by class -/
def blT (i j : Nat) : Bool := i == j && decide (i < 13)
def bkT (i j : Nat) : Bool :=
  if i < 13 || i == 19 then j == 6 || j == 7
  else if i == 13 then j == 0 || j == 6 || j == 7
  else if i == 14 then j == 1 || j == 8 || j == 10
  else if i == 15 then j == 2 || j == 9 || j == 10
  else if i == 16 then j == 3 || j == 11
  else if i == 17 then j == 4 || j == 12 || j == 13
  else j == 5 || j == 13
abbrev tx (i : Nat) : Str := ltext (blT i) ++ ktext (bkT i)
theorem tx0 : tx 0 = "a disc value" := by decide +kernel
theorem tx1 : tx 1 = "b disc value" := by decide +kernel
theorem tx2 : tx 2 = "c disc value" := by decide +kernel
theorem tx3 : tx 3 = "d disc value" := by decide +kernel
theorem tx4 : tx 4 = "e disc value" := by decide +kernel
theorem tx5 : tx 5 = "f disc value" := by decide +kernel
theorem tx6 : tx 6 = "g disc value" := by decide +kernel
theorem tx7 : tx 7 = "h disc value" := by decide +kernel
theorem tx8 : tx 8 = "i disc value" := by decide +kernel
theorem tx9 : tx 9 = "j disc value" := by decide +kernel
theorem tx10 : tx 10 = "k disc value" := by decide +kernel
theorem tx11 : tx 11 = "l disc value" := by decide +kernel
theorem tx12 : tx 12 = "m disc value" := by decide +kernel
theorem tx13 : tx 13 = "P disc value" := by decide +kernel
theorem tx14 : tx 14 = "U key lookup" := by decide +kernel
theorem tx15 : tx 15 = "N index lookup" := by decide +kernel
theorem tx16 : tx 16 = "Z runtime" := by decide +kernel
theorem tx17 : tx 17 = "M overflow arithmetic" := by decide +kernel
theorem tx18 : tx 18 = "R arithmetic" := by decide +kernel
theorem tx19 : tx 19 = " disc value" := by decide +kernel
structure Ans (K : PySem.W.Frag) (c : Nat → Addr) : Prop where
  e : ∀ i, i < 20 → ExcC K (c i)
  l : ∀ i, i < 20 → LAns K c (c i) (blT i)
  k : ∀ i, i < 20 → KAns K c (c i) (bkT i)
abbrev veMro : List Value := [.type "ValueError", .type "Exception", .type "BaseException", .type "object"]
abbrev ieMro : List Value := [.type "IndexError", .type "LookupError", .type "Exception", .type "BaseException", .type "object"]
abbrev reMro : List Value := [.type "RuntimeError", .type "Exception", .type "BaseException", .type "object"]
abbrev oeMro : List Value := [.type "OverflowError", .type "ArithmeticError", .type "Exception", .type "BaseException", .type "object"]
abbrev aeMro : List Value := [.type "ArithmeticError", .type "Exception", .type "BaseException", .type "object"]
theorem chV : Chain "ValueError" veMro := ⟨by decide +kernel, by decide +kernel, by decide +kernel⟩
theorem chK : Chain "LookupError" keyMro := ⟨by decide +kernel, by decide +kernel, by decide +kernel⟩
theorem chI : Chain "IndexError" ieMro := ⟨by decide +kernel, by decide +kernel, by decide +kernel⟩
theorem chR : Chain "RuntimeError" reMro := ⟨by decide +kernel, by decide +kernel, by decide +kernel⟩
theorem chO : Chain "OverflowError" oeMro := ⟨by decide +kernel, by decide +kernel, by decide +kernel⟩
theorem chA : Chain "ArithmeticError" aeMro := ⟨by decide +kernel, by decide +kernel, by decide +kernel⟩
/-- the six classes that keep something -/
structure Six (K : PySem.W.Frag) (mg : Str → Option Value) (c fi : Nat → Addr) : Prop where
  t13 : IniT K mg "ParseError" "number" "ParseError.__init__" (c 13) (fi 0) "ValueError.__new__" veMro
  t14 : IniT K mg "UnknownName" "name" "UnknownName.__init__" (c 14) (fi 1) "LookupError.__new__" keyMro
  t15 : IniT K mg "InvalidNumber" "value" "InvalidNumber.__init__" (c 15) (fi 2) "IndexError.__new__" ieMro
  t16 : IniT K mg "NothingToUndo" "wanted" "NothingToUndo.__init__" (c 16) (fi 3) "RuntimeError.__new__" reMro
  t17 : IniT K mg "TooMany" "limit" "TooMany.__init__" (c 17) (fi 4) "OverflowError.__new__" oeMro
  t18 : IniT K mg "Refused" "pledge" "Refused.__init__" (c 18) (fi 5) "ArithmeticError.__new__" aeMro
abbrev skept : Stmt := topS 29
theorem sckept : FnScope ["_law_worth", "_law_index", "_law_parse", "_law_unknown", "_law_wrong", "_law_undo", "_law_much", "_law_refused", "_law_found"] ["_law_worth", "_law_index"] (defScope skept) := ⟨rfl, rfl, rfl, by decide +kernel, rfl, by decide +kernel, by decide +kernel⟩
/-- what is kept, as data -/
abbrev keptD (dW dI : PyData) : PyData := .list [.tuple [.str (tx 13), dI], .tuple [.str (tx 14), dW], .tuple [.str (tx 15), dW], .tuple [.str (tx 16), dW], .tuple [.str (tx 17), dW], .tuple [.str (tx 18), dW]]
def spKept (K : PySem.W.Frag) : Sp := fun vs H Q _ => ∃ (v u : V) (dW dI : PyData), vs = [v, u] ∧ DR K H v dW ∧ DR K H u dI ∧ ∀ p H', Same H H' → DR K H' (.ref p) (keptD dW dI) → Q (.ref p) H'
section
variable {P : Program} {w : World} {K : PySem.W.Frag} {mg : Str → Option Value} {base : Heap} {c fi : Nat → Addr}
theorem ok_kept {f fA : Addr} {fd fdA : FuncData} (F : Fun K "_law_kept" "_law_kept" skept f fd) (FA : Fun K "_law_all" "_law_all" sall fA fdA) (GA : FnOk P w K mg base CX0 2 fA fdA ["_law_error"] (spAll K c)) (gA : mg "_law_all" = some (.ref fA)) (bA : Binds K fdA ["_law_error"] [])
    (A : Ans K c) (S : Six K mg c fi) : FnOk P w K mg base CX0 3 f fd ["_law_worth", "_law_index"] (spKept K) := by
  refine F.ok sckept (fun vs H Q E h => ?_) (fun cdv A' outer s H vs Q E hr h => ?_)
  · obtain ⟨v, u, dW, dI, rfl, _⟩ := h
    rfl
  · obtain ⟨v, u, dW, dI, rfl, hW, hI, k⟩ := h
    have hr2 : Room 2 _ := hr
    refine ⟨_, (pss_cons (ps_par3 (i := 2) (j := 3) (l := 4) rfl sckept.nd rfl rfl rfl (by decide) (by decide) (by decide) rfl rfl rfl (pa_cons (pe_ini S.t13 PySem.F.excBase_ValueError chV PySem.F.store_ValueError fld_number hr (pa_cons (pv 1) pa_nil) rfl) (pa_cons (pe_ini S.t14 PySem.F.excBase_LookupError chK store_KeyError fld_name hr (pa_cons (pv 0) pa_nil) rfl) (pa_cons (pe_ini S.t15 PySem.F.excBase_IndexError chI PySem.F.store_IndexError fld_value hr (pa_cons (pv 0) pa_nil) rfl) pa_nil))) (by rfl))
      (pss_cons (ps_par3 (i := 5) (j := 6) (l := 7) rfl sckept.nd rfl rfl rfl (by decide) (by decide) (by decide) rfl rfl rfl (pa_cons (pe_ini S.t16 PySem.F.excBase_RuntimeError chR PySem.F.store_RuntimeError fld_wanted hr (pa_cons (pv 0) pa_nil) rfl) (pa_cons (pe_ini S.t17 PySem.F.excBase_OverflowError chO PySem.F.store_OverflowError fld_limit hr (pa_cons (pv 0) pa_nil) rfl) (pa_cons (pe_ini S.t18 PySem.F.excBase_ArithmeticError chA PySem.F.store_ArithmeticError fld_pledge hr (pa_cons (pv 0) pa_nil) rfl) pa_nil))) (by rfl))
      (pss_cons (ps_set (i := 8) sckept.nd rfl (Or.inl rfl) (pe_lst (pa_cons (pe_tup (pa_cons (pe_call GA hr2 rfl gA FA.kp bA .nil pass0 (pa_cons (pv 2) pa_nil)) (pa_cons (pe_errF S.t13 (pv 2)) pa_nil))) (pa_cons (pe_tup (pa_cons (pe_call GA hr2 rfl gA FA.kp bA .nil pass0 (pa_cons (pv 3) pa_nil)) (pa_cons (pe_errF S.t14 (pv 3)) pa_nil))) (pa_cons (pe_tup (pa_cons (pe_call GA hr2 rfl gA FA.kp bA .nil pass0 (pa_cons (pv 4) pa_nil)) (pa_cons (pe_errF S.t15 (pv 4)) pa_nil))) pa_nil)))))
      (pss_cons (ps_set (i := 8) sckept.nd rfl (Or.inl rfl) (pe_op op_cat (pv 8) (pe_lst (pa_cons (pe_tup (pa_cons (pe_call GA hr2 rfl gA FA.kp bA .nil pass0 (pa_cons (pv 5) pa_nil)) (pa_cons (pe_errF S.t16 (pv 5)) pa_nil))) (pa_cons (pe_tup (pa_cons (pe_call GA hr2 rfl gA FA.kp bA .nil pass0 (pa_cons (pv 6) pa_nil)) (pa_cons (pe_errF S.t17 (pv 6)) pa_nil))) pa_nil)))))
      (pss_one (ps_ret (pe_op op_cat (pv 8) (pe_lst (pa_cons (pe_tup (pa_cons (pe_call GA hr2 rfl gA FA.kp bA .nil pass0 (pa_cons (pv 7) pa_nil)) (pa_cons (pe_errF S.t18 (pv 7)) pa_nil))) pa_nil))))))))), ?_⟩
    refine ⟨_, rfl, _, rfl, fun d0 e0 x0 y0 z0 => ?_⟩
    have Y0 := fun o => (upd_ne (o := o) z0.symm).trans y0
    refine ⟨_, rfl, _, rfl, fun d1 e1 x1 y1 z1 => ?_⟩
    have Y1 := fun o => (upd_ne (o := o) z1.symm).trans y1
    refine ⟨_, rfl, _, rfl, fun d2 e2 x2 y2 z2 => ?_⟩
    have Y2 := fun o => (upd_ne (o := o) z2.symm).trans y2
    refine ⟨_, _, _, rfl, ?_⟩
    refine ⟨_, rfl, _, rfl, fun d3 e3 x3 y3 z3 => ?_⟩
    have Y3 := fun o => (upd_ne (o := o) z3.symm).trans y3
    refine ⟨_, rfl, _, rfl, fun d4 e4 x4 y4 z4 => ?_⟩
    have Y4 := fun o => (upd_ne (o := o) z4.symm).trans y4
    refine ⟨_, rfl, _, rfl, fun d5 e5 x5 y5 z5 => ?_⟩
    have Y5 := fun o => (upd_ne (o := o) z5.symm).trans y5
    refine ⟨_, _, _, rfl, ?_⟩
    refine ⟨_, rfl, e0, c 13, blT 13, bkT 13, rfl, .with_ (((((((((((sm x1).trans (sm (Y1 _))).trans (sm x2)).trans (sm (Y2 _))).trans (sm x3)).trans (sm (Y3 _))).trans (sm x4)).trans (sm (Y4 _))).trans (sm x5)).trans (sm (Y5 _))) _ _ upd_same) ((((((((((((sm (Y0 _)).trans (sm x1)).trans (sm (Y1 _))).trans (sm x2)).trans (sm (Y2 _))).trans (sm x3)).trans (sm (Y3 _))).trans (sm x4)).trans (sm (Y4 _))).trans (sm x5)).trans (sm (Y5 _))) _ _ upd_same), A.e 13 (by decide), A.l 13 (by decide), A.k 13 (by decide), _, rfl, e0, d0, _, rfl, ((((((((((sm x1).trans (sm (Y1 _))).trans (sm x2)).trans (sm (Y2 _))).trans (sm x3)).trans (sm (Y3 _))).trans (sm x4)).trans (sm (Y4 _))).trans (sm x5)).trans (sm (Y5 _))) _ _ upd_same, (((((((((((sm (Y0 _)).trans (sm x1)).trans (sm (Y1 _))).trans (sm x2)).trans (sm (Y2 _))).trans (sm x3)).trans (sm (Y3 _))).trans (sm x4)).trans (sm (Y4 _))).trans (sm x5)).trans (sm (Y5 _))) _ _ upd_same, by show 2 ≤ sizeLine; decide, fun p0 q0 => ?_⟩
    refine ⟨_, rfl, e1, c 14, blT 14, bkT 14, rfl, .with_ ((((((((((sm x2).trans (sm (Y2 _))).trans (sm x3)).trans (sm (Y3 _))).trans (sm x4)).trans (sm (Y4 _))).trans (sm x5)).trans (sm (Y5 _))).trans (sm q0)) _ _ upd_same) (((((((((((sm (Y1 _)).trans (sm x2)).trans (sm (Y2 _))).trans (sm x3)).trans (sm (Y3 _))).trans (sm x4)).trans (sm (Y4 _))).trans (sm x5)).trans (sm (Y5 _))).trans (sm q0)) _ _ upd_same), A.e 14 (by decide), A.l 14 (by decide), A.k 14 (by decide), _, rfl, e1, d1, _, rfl, (((((((((sm x2).trans (sm (Y2 _))).trans (sm x3)).trans (sm (Y3 _))).trans (sm x4)).trans (sm (Y4 _))).trans (sm x5)).trans (sm (Y5 _))).trans (sm q0)) _ _ upd_same, ((((((((((sm (Y1 _)).trans (sm x2)).trans (sm (Y2 _))).trans (sm x3)).trans (sm (Y3 _))).trans (sm x4)).trans (sm (Y4 _))).trans (sm x5)).trans (sm (Y5 _))).trans (sm q0)) _ _ upd_same, by show 2 ≤ sizeLine; decide, fun p1 q1 => ?_⟩
    refine ⟨_, rfl, e2, c 15, blT 15, bkT 15, rfl, .with_ (((((((((sm x3).trans (sm (Y3 _))).trans (sm x4)).trans (sm (Y4 _))).trans (sm x5)).trans (sm (Y5 _))).trans (sm q0)).trans (sm q1)) _ _ upd_same) ((((((((((sm (Y2 _)).trans (sm x3)).trans (sm (Y3 _))).trans (sm x4)).trans (sm (Y4 _))).trans (sm x5)).trans (sm (Y5 _))).trans (sm q0)).trans (sm q1)) _ _ upd_same), A.e 15 (by decide), A.l 15 (by decide), A.k 15 (by decide), _, rfl, e2, d2, _, rfl, ((((((((sm x3).trans (sm (Y3 _))).trans (sm x4)).trans (sm (Y4 _))).trans (sm x5)).trans (sm (Y5 _))).trans (sm q0)).trans (sm q1)) _ _ upd_same, (((((((((sm (Y2 _)).trans (sm x3)).trans (sm (Y3 _))).trans (sm x4)).trans (sm (Y4 _))).trans (sm x5)).trans (sm (Y5 _))).trans (sm q0)).trans (sm q1)) _ _ upd_same, by show 2 ≤ sizeLine; decide, fun p2 q2 => ?_⟩
    refine ⟨by show 3 ≤ sizeLine; decide, fun l0 m0 => ⟨_, rfl, ?_⟩⟩
    refine ⟨_, rfl, e3, c 16, blT 16, bkT 16, rfl, .with_ (((((((((sm x4).trans (sm (Y4 _))).trans (sm x5)).trans (sm (Y5 _))).trans (sm q0)).trans (sm q1)).trans (sm q2)).trans (sm m0)) _ _ upd_same) ((((((((((sm (Y3 _)).trans (sm x4)).trans (sm (Y4 _))).trans (sm x5)).trans (sm (Y5 _))).trans (sm q0)).trans (sm q1)).trans (sm q2)).trans (sm m0)) _ _ upd_same), A.e 16 (by decide), A.l 16 (by decide), A.k 16 (by decide), _, rfl, e3, d3, _, rfl, ((((((((sm x4).trans (sm (Y4 _))).trans (sm x5)).trans (sm (Y5 _))).trans (sm q0)).trans (sm q1)).trans (sm q2)).trans (sm m0)) _ _ upd_same, (((((((((sm (Y3 _)).trans (sm x4)).trans (sm (Y4 _))).trans (sm x5)).trans (sm (Y5 _))).trans (sm q0)).trans (sm q1)).trans (sm q2)).trans (sm m0)) _ _ upd_same, by show 2 ≤ sizeLine; decide, fun p3 q3 => ?_⟩
    refine ⟨_, rfl, e4, c 17, blT 17, bkT 17, rfl, .with_ ((((((((sm x5).trans (sm (Y5 _))).trans (sm q0)).trans (sm q1)).trans (sm q2)).trans (sm m0)).trans (sm q3)) _ _ upd_same) (((((((((sm (Y4 _)).trans (sm x5)).trans (sm (Y5 _))).trans (sm q0)).trans (sm q1)).trans (sm q2)).trans (sm m0)).trans (sm q3)) _ _ upd_same), A.e 17 (by decide), A.l 17 (by decide), A.k 17 (by decide), _, rfl, e4, d4, _, rfl, (((((((sm x5).trans (sm (Y5 _))).trans (sm q0)).trans (sm q1)).trans (sm q2)).trans (sm m0)).trans (sm q3)) _ _ upd_same, ((((((((sm (Y4 _)).trans (sm x5)).trans (sm (Y5 _))).trans (sm q0)).trans (sm q1)).trans (sm q2)).trans (sm m0)).trans (sm q3)) _ _ upd_same, by show 2 ≤ sizeLine; decide, fun p4 q4 => ?_⟩
    refine ⟨by show 2 ≤ sizeLine; decide, fun l1 m1 => ⟨_, _, _, _, rfl, rfl, ((((sm q3).trans (sm q4)).trans (sm m1)) _ _ upd_same), upd_same, by show 5 ≤ sizeLine; decide, fun l2 m2 => ⟨_, rfl, ?_⟩⟩⟩
    refine ⟨_, rfl, e5, c 18, blT 18, bkT 18, rfl, .with_ (((((((((sm q0).trans (sm q1)).trans (sm q2)).trans (sm m0)).trans (sm q3)).trans (sm q4)).trans (sm m1)).trans (sm m2)) _ _ upd_same) ((((((((((sm (Y5 _)).trans (sm q0)).trans (sm q1)).trans (sm q2)).trans (sm m0)).trans (sm q3)).trans (sm q4)).trans (sm m1)).trans (sm m2)) _ _ upd_same), A.e 18 (by decide), A.l 18 (by decide), A.k 18 (by decide), _, rfl, e5, d5, _, rfl, ((((((((sm q0).trans (sm q1)).trans (sm q2)).trans (sm m0)).trans (sm q3)).trans (sm q4)).trans (sm m1)).trans (sm m2)) _ _ upd_same, (((((((((sm (Y5 _)).trans (sm q0)).trans (sm q1)).trans (sm q2)).trans (sm m0)).trans (sm q3)).trans (sm q4)).trans (sm m1)).trans (sm m2)) _ _ upd_same, by show 2 ≤ sizeLine; decide, fun p5 q5 => ?_⟩
    refine ⟨by show 1 ≤ sizeLine; decide, fun l3 m3 => ⟨_, _, _, _, rfl, rfl, (((sm q5).trans (sm m3)) _ _ upd_same), upd_same, by show 6 ≤ sizeLine; decide, fun l4 m4 => ?_⟩⟩
    exact k l4 _ (((((((((((((((((((((((sm x0).trans (sm (Y0 _))).trans (sm x1)).trans (sm (Y1 _))).trans (sm x2)).trans (sm (Y2 _))).trans (sm x3)).trans (sm (Y3 _))).trans (sm x4)).trans (sm (Y4 _))).trans (sm x5)).trans (sm (Y5 _))).trans (sm q0)).trans (sm q1)).trans (sm q2)).trans (sm m0)).trans (sm q3)).trans (sm q4)).trans (sm m1)).trans (sm m2)).trans (sm q5)).trans (sm m3)).trans (sm m4)) (DR.lst (SqL.of upd_same) (DRs.cons (DR.tup (SqT.of (((((((((((sm q1).trans (sm q2)).trans (sm m0)).trans (sm q3)).trans (sm q4)).trans (sm m1)).trans (sm m2)).trans (sm q5)).trans (sm m3)).trans (sm m4)) _ _ upd_same)) (DRs.cons (.str _) (DRs.cons (hI.same (((((((((((((((((((((((sm x0).trans (sm (Y0 _))).trans (sm x1)).trans (sm (Y1 _))).trans (sm x2)).trans (sm (Y2 _))).trans (sm x3)).trans (sm (Y3 _))).trans (sm x4)).trans (sm (Y4 _))).trans (sm x5)).trans (sm (Y5 _))).trans (sm q0)).trans (sm q1)).trans (sm q2)).trans (sm m0)).trans (sm q3)).trans (sm q4)).trans (sm m1)).trans (sm m2)).trans (sm q5)).trans (sm m3)).trans (sm m4))) .nil))) (DRs.cons (DR.tup (SqT.of ((((((((((sm q2).trans (sm m0)).trans (sm q3)).trans (sm q4)).trans (sm m1)).trans (sm m2)).trans (sm q5)).trans (sm m3)).trans (sm m4)) _ _ upd_same)) (DRs.cons (.str _) (DRs.cons (hW.same (((((((((((((((((((((((sm x0).trans (sm (Y0 _))).trans (sm x1)).trans (sm (Y1 _))).trans (sm x2)).trans (sm (Y2 _))).trans (sm x3)).trans (sm (Y3 _))).trans (sm x4)).trans (sm (Y4 _))).trans (sm x5)).trans (sm (Y5 _))).trans (sm q0)).trans (sm q1)).trans (sm q2)).trans (sm m0)).trans (sm q3)).trans (sm q4)).trans (sm m1)).trans (sm m2)).trans (sm q5)).trans (sm m3)).trans (sm m4))) .nil))) (DRs.cons (DR.tup (SqT.of (((((((((sm m0).trans (sm q3)).trans (sm q4)).trans (sm m1)).trans (sm m2)).trans (sm q5)).trans (sm m3)).trans (sm m4)) _ _ upd_same)) (DRs.cons (.str _) (DRs.cons (hW.same (((((((((((((((((((((((sm x0).trans (sm (Y0 _))).trans (sm x1)).trans (sm (Y1 _))).trans (sm x2)).trans (sm (Y2 _))).trans (sm x3)).trans (sm (Y3 _))).trans (sm x4)).trans (sm (Y4 _))).trans (sm x5)).trans (sm (Y5 _))).trans (sm q0)).trans (sm q1)).trans (sm q2)).trans (sm m0)).trans (sm q3)).trans (sm q4)).trans (sm m1)).trans (sm m2)).trans (sm q5)).trans (sm m3)).trans (sm m4))) .nil))) (DRs.cons (DR.tup (SqT.of (((((((sm q4).trans (sm m1)).trans (sm m2)).trans (sm q5)).trans (sm m3)).trans (sm m4)) _ _ upd_same)) (DRs.cons (.str _) (DRs.cons (hW.same (((((((((((((((((((((((sm x0).trans (sm (Y0 _))).trans (sm x1)).trans (sm (Y1 _))).trans (sm x2)).trans (sm (Y2 _))).trans (sm x3)).trans (sm (Y3 _))).trans (sm x4)).trans (sm (Y4 _))).trans (sm x5)).trans (sm (Y5 _))).trans (sm q0)).trans (sm q1)).trans (sm q2)).trans (sm m0)).trans (sm q3)).trans (sm q4)).trans (sm m1)).trans (sm m2)).trans (sm q5)).trans (sm m3)).trans (sm m4))) .nil))) (DRs.cons (DR.tup (SqT.of ((((((sm m1).trans (sm m2)).trans (sm q5)).trans (sm m3)).trans (sm m4)) _ _ upd_same)) (DRs.cons (.str _) (DRs.cons (hW.same (((((((((((((((((((((((sm x0).trans (sm (Y0 _))).trans (sm x1)).trans (sm (Y1 _))).trans (sm x2)).trans (sm (Y2 _))).trans (sm x3)).trans (sm (Y3 _))).trans (sm x4)).trans (sm (Y4 _))).trans (sm x5)).trans (sm (Y5 _))).trans (sm q0)).trans (sm q1)).trans (sm q2)).trans (sm m0)).trans (sm q3)).trans (sm q4)).trans (sm m1)).trans (sm m2)).trans (sm q5)).trans (sm m3)).trans (sm m4))) .nil))) (DRs.cons (DR.tup (SqT.of (((sm m3).trans (sm m4)) _ _ upd_same)) (DRs.cons (.str _) (DRs.cons (hW.same (((((((((((((((((((((((sm x0).trans (sm (Y0 _))).trans (sm x1)).trans (sm (Y1 _))).trans (sm x2)).trans (sm (Y2 _))).trans (sm x3)).trans (sm (Y3 _))).trans (sm x4)).trans (sm (Y4 _))).trans (sm x5)).trans (sm (Y5 _))).trans (sm q0)).trans (sm q1)).trans (sm q2)).trans (sm m0)).trans (sm q3)).trans (sm q4)).trans (sm m1)).trans (sm m2)).trans (sm q5)).trans (sm m3)).trans (sm m4))) .nil))) DRs.nil)))))))
end
end VK
/-! VHot -/
set_option maxRecDepth 100000
set_option maxHeartbeats 4000000
/-! a def that an except suite calls with the error that it holds -/
namespace VK
open PySem PySem.Spec PyProof.Rows L2
/-- isinstance(e, c), e an error whose object is pinned -/
theorem call_isPin {X : Cx} {a D : Addr} {oe : Obj} (hp : (a, oe) ∈ X.pn) (C : ExcC X.K D) (hz : Zc (.ref D) none oe) (hf : ∃ vs, oe.data = .fields vs) : CallR X (.builtin "isinstance") (rIsE X.K D a) := by
  intro pins s σ H xs us Q I r h
  obtain ⟨c, cv, b, rfl, hcv, e, q⟩ := h
  obtain ⟨u1, u2, rfl, r1, r2⟩ := vals2 r
  cases (show u1 = Value.ref a from r1)
  cases hcv _ r2
  obtain ⟨vs, hv⟩ := hf
  have J : PySem.W.InstAt s.heap a oe D none := by
    refine ⟨(I.pin (a, oe) (List.mem_append_left _ hp)).1, hz.1, by unfold PySem.W.notCls; rw [hv], ?_⟩
    rw [hz.2]
    trivial
  exact PySem.W.kia_one (PySem.W.handS_kitx_exc C.hg C.hk C.hs C.hd C.ha C.hn C.ht C.hm) I.kIn J e (fun z => nomatch z) fun tk => ⟨.bl b, H, I.kept (t' := tk) fun _ _ z => z, rfl, q⟩
section
variable {P : Program} {w : World} {K : PySem.W.Frag} {mg : Str → Option Value} {base : Heap} {k : Nat} {f : Addr} {fd : FuncData} {ps N : List Str}
theorem hot_call {x qual : Str} {st : Stmt} (F : Fun K x qual st f fd) (S : FnScope N ps (defScope st)) (hb : Binds K fd ps []) {A : Around} {outer : List Env} {s : Shared} {H : Hp} {us : List Value} {vs : List V} {Q : VK} {p : Addr × Obj} (hl : vs.length = ps.length) (r : Vals vs us)
    (hr : L2H.RoomH (k + 1) A) (hpin : L2H.PinOk outer H s p) (e0 : Env0 P w K mg base A outer s H)
    (hbody : ∀ cdv, L2H.RoomH k (A.deeper (envOfC qual (defScope st) s.heap.objs.size f cdv)) → ∃ t, PSs (L2H.cxH CX0 P w K mg base N qual (defScope st) f cdv A outer s H E0 p) (defBody st) t ∧ t { nx := fun _ H' => Q .non H', rt := Q } (start N vs) H) :
    codeAny (model P w) A (.call (.ref f) ⟨us, []⟩) (CR CX0 outer P w H s Q E0) s := by
  obtain ⟨oc, od, kV, doc, pm, an, cdv, ct, osl, rfl, lk, hcd⟩ := F.ex
  have KX := e0.mod.kin.keeps fun b o e => (e0.bs b o e).1
  have lim := e0.mod.nolimit.keeps fun b o e => (e0.bs b o e).1
  have b := hb s us KX (by rw [List.append_nil, ← r.length]; exact hl)
  rw [List.append_nil] at b
  refine codeAny_call_function hr.depth (KX _ _ lk) rfl S.co S.gen rfl (PySem.W.codeRec_of KX hcd) (b _ _ _ _ ?_)
  refine wpAny_newFunctionEnv_cells S.kind (fun ⟨n, v⟩ hy => ?_) fun env he s1 x => ?_
  · rcases S.par n (List.of_mem_zip hy).1 with q | q
    · exact .inl q
    · exact .inr ⟨q, PySem.W.cellsFrom_some _ _ _ (.inl q)⟩
  · subst he
    obtain ⟨t, ht, hq⟩ := hbody cdv (hr.deeper _)
    refine ⟨lim.keeps x.toInCall.keep, codeAny_func (wpAny_mono (ht.run [] s1 _ H _ (L2H.inv_startH S hpin e0 hl r x) hq) (fun fl s' hs => ?_) fun e s' hs => hs)⟩
    match fl, hs with
    | .ret u, hs => obtain ⟨v, σ', H', J, rv, q⟩ := hs; exact ⟨v, H', J.os, J.bare, J.base, J.hok, rv, q⟩
    | .next, hs => obtain ⟨σ', H', J, q⟩ := hs; exact ⟨.non, H', J.os, J.bare, J.base, J.hok, rfl, q⟩
    | .brk, hs => obtain ⟨_, _, _, q⟩ := hs; exact q.elim
    | .cont, hs => obtain ⟨_, _, _, q⟩ := hs; exact q.elim
end
section
variable {X : Cx} {k : Nat} {f a : Addr} {oe : Obj} {pn : List (Addr × Obj)} {x : Str} {q pos : Pos} {e : Expr} {te : TE}
/-- f(e) in a suite, e the error that it holds; R: what is wanted of the answer -/
theorem pe_hot {R : Hp → VK → Prop} (go : ∀ (A : Around) (outer : List Env) (s : Shared) (H : Hp) (Q : VK), L2H.RoomH k A → L2H.PinOk outer H s (a, oe) → Env0 X.prog X.w X.K X.mg X.base A outer s H → R H Q → codeAny (model X.prog X.w) A (.call (.ref f) ⟨[.ref a], []⟩) (CR CX0 outer X.prog X.w H s Q E0) s)
    (hr : Room k X.A) (hg : Gl X x) (hm : X.mg x = some (.ref f)) (hk : PySem.W.keepIn X.K (.ref f) = true) (he : PE (X.suite a ((a, oe) :: pn)) e te) (hdb : (x == ("__debug__" : Str)) = false := by decide)
    (hs : starEach (e :: []) X.env = (false, eval e X.env) :: starEach [] X.env := by rfl) (hpl : (backTo pos (starEach [] X.env)).any (·.1) = false := by rfl) :
    PE (X.suite a ((a, oe) :: pn)) (.Call (.Name x q) [e] [] pos) (fun σ H Q => tCons te tNil σ H fun vs H1 => vs = [.ref a] ∧ R H1 Q) := by
  refine ⟨fun pins s σ H Q I h => wpAny_Call_Name_kw (ld_glob (X := X.suite a ((a, oe) :: pn)) I hg hm ?_ hdb)⟩
  have ha : PA (X.suite a ((a, oe) :: pn)) [e] (tCons te tNil) := pa_cons he pa_nil hs
  refine PySem.W.callWith_K (h₀ := X.base) I.ok.mod.kin hk (thn (ha.run pos pins s σ H _ I h) fun us s1 hh => ?_) hs hpl
  · obtain ⟨vs, H1, I1, r, rfl, z⟩ := hh
    obtain ⟨u, rfl, ru⟩ := vals1 r
    cases (show u = Value.ref a from ru)
    refine ⟨I1.kIn, ?_⟩
    have P1 := I1.pin (a, oe) (List.mem_append_left _ List.mem_cons_self)
    have pin : L2H.PinOk (X.suite a ((a, oe) :: pn)).stack H1 s1 (a, oe) := ⟨P1.1, P1.2.1, fun hm => (List.mem_cons.mp (I1.stkSub _ hm)).elim P1.2.2.1 P1.2.2.2.1, P1.2.2.2.2⟩
    refine wpAny_call (codeAny_mono (go (X.suite a ((a, oe) :: pn)).A _ s1 H1 Q ⟨hr.dp, hr.un⟩ pin I1.env0 z) fun r s' hq => ?_)
    match r, hq with
    | .error e, hq => exact hq.elim
    | .ok (.ret u), hq => exact I1.after hq
end
end VK
/-! K01E -/
set_option maxRecDepth 100000
set_option maxHeartbeats 4000000
namespace VK
open PySem L2
abbrev scaught : Stmt := topS 30
theorem sccaught : FnScope ["_law_worth", "_law_way", "e"] ["_law_worth", "_law_way"] (defScope scaught) := ⟨rfl, rfl, rfl, by decide +kernel, rfl, by decide +kernel, by decide +kernel⟩
section
variable {P : Program} {w : World} {K : PySem.W.Frag} {mg : Str → Option Value} {base : Heap} {c fi : Nat → Addr}
theorem call_reprS {X : Cx} {a : Addr} {pn : List (Addr × Obj)} (hg : X.A.guards = some []) (hu : X.A.units + 64 < cLine) : CallR (X.suite a pn) (.builtin "repr") (rRepr X.K) := call_reprD (X := X.suite a pn) hg hu
/-- letters(e), e the error that the suite holds -/
theorem hot_letters {f : Addr} {fd : FuncData} (F : Fun K "_law_letters" "_law_letters" sletters f fd) (bL : Binds K fd ["_law_error"] []) (B : Blt mg) (T : ErrN mg c) {a D : Addr} {oe : Obj} {b : Nat → Bool} (hz : Zc (.ref D) none oe) (hf : ∃ vs, oe.data = .fields vs) (hC : ExcC K D) (hL : LAns K c D b) :
    ∀ (A : Around) (outer : List Env) (s : Shared) (H : Hp) (Q : VK), L2H.RoomH 1 A → L2H.PinOk outer H s (a, oe) → Env0 P w K mg base A outer s H → Q (.str (ltext b)) H → codeAny (model P w) A (.call (.ref f) ⟨[.ref a], []⟩) (CR CX0 outer P w H s Q E0) s := by
  intro A outer s H Q hr hpin e0 k
  obtain ⟨k0, k1, k2, k3, k4, k5, k6, k7, k8, k9, k10, k11, k12⟩ := hL
  refine hot_call (vs := [V.ref a]) F scletters bL rfl (.cons rfl .nil) hr hpin e0 fun cdv hr' => ⟨_, (pss_cons (ps_set (i := 1) scletters.nd rfl (Or.inl rfl) (pe_op op_add_str (pe_op op_times pe_str (pe_callTy call_int1 (by rfl) B.n_int (by decide +kernel) (pa_cons (pe_callB (call_isPin List.mem_cons_self hC hz hf) (by rfl) B.n_isinstance (by decide +kernel) (pa_cons (pv 0) (pa_cons (pe_glob (v := .ref (c 0)) rfl T.gInvalidDisc rfl) pa_nil))) pa_nil))) (pe_op op_times pe_str (pe_callTy call_int1 (by rfl) B.n_int (by decide +kernel) (pa_cons (pe_callB (call_isPin List.mem_cons_self hC hz hf) (by rfl) B.n_isinstance (by decide +kernel) (pa_cons (pv 0) (pa_cons (pe_glob (v := .ref (c 1)) rfl T.gInvalidPairing rfl) pa_nil))) pa_nil)))))
      (pss_cons (ps_set (i := 1) scletters.nd rfl (Or.inl rfl) (pe_op op_add_str (pe_op op_add_str (pv 1) (pe_op op_times pe_str (pe_callTy call_int1 (by rfl) B.n_int (by decide +kernel) (pa_cons (pe_callB (call_isPin List.mem_cons_self hC hz hf) (by rfl) B.n_isinstance (by decide +kernel) (pa_cons (pv 0) (pa_cons (pe_glob (v := .ref (c 2)) rfl T.gInvalidLeaning rfl) pa_nil))) pa_nil)))) (pe_op op_times pe_str (pe_callTy call_int1 (by rfl) B.n_int (by decide +kernel) (pa_cons (pe_callB (call_isPin List.mem_cons_self hC hz hf) (by rfl) B.n_isinstance (by decide +kernel) (pa_cons (pv 0) (pa_cons (pe_glob (v := .ref (c 3)) rfl T.gInvalidOrder rfl) pa_nil))) pa_nil)))))
      (pss_cons (ps_set (i := 1) scletters.nd rfl (Or.inl rfl) (pe_op op_add_str (pe_op op_add_str (pv 1) (pe_op op_times pe_str (pe_callTy call_int1 (by rfl) B.n_int (by decide +kernel) (pa_cons (pe_callB (call_isPin List.mem_cons_self hC hz hf) (by rfl) B.n_isinstance (by decide +kernel) (pa_cons (pv 0) (pa_cons (pe_glob (v := .ref (c 4)) rfl T.gInvalidSet rfl) pa_nil))) pa_nil)))) (pe_op op_times pe_str (pe_callTy call_int1 (by rfl) B.n_int (by decide +kernel) (pa_cons (pe_callB (call_isPin List.mem_cons_self hC hz hf) (by rfl) B.n_isinstance (by decide +kernel) (pa_cons (pv 0) (pa_cons (pe_glob (v := .ref (c 5)) rfl T.gInvalidNecklace rfl) pa_nil))) pa_nil)))))
      (pss_cons (ps_set (i := 1) scletters.nd rfl (Or.inl rfl) (pe_op op_add_str (pe_op op_add_str (pv 1) (pe_op op_times pe_str (pe_callTy call_int1 (by rfl) B.n_int (by decide +kernel) (pa_cons (pe_callB (call_isPin List.mem_cons_self hC hz hf) (by rfl) B.n_isinstance (by decide +kernel) (pa_cons (pv 0) (pa_cons (pe_glob (v := .ref (c 6)) rfl T.gInvalidDiagram rfl) pa_nil))) pa_nil)))) (pe_op op_times pe_str (pe_callTy call_int1 (by rfl) B.n_int (by decide +kernel) (pa_cons (pe_callB (call_isPin List.mem_cons_self hC hz hf) (by rfl) B.n_isinstance (by decide +kernel) (pa_cons (pv 0) (pa_cons (pe_glob (v := .ref (c 7)) rfl T.gInvalidMove rfl) pa_nil))) pa_nil)))))
      (pss_cons (ps_set (i := 1) scletters.nd rfl (Or.inl rfl) (pe_op op_add_str (pe_op op_add_str (pv 1) (pe_op op_times pe_str (pe_callTy call_int1 (by rfl) B.n_int (by decide +kernel) (pa_cons (pe_callB (call_isPin List.mem_cons_self hC hz hf) (by rfl) B.n_isinstance (by decide +kernel) (pa_cons (pv 0) (pa_cons (pe_glob (v := .ref (c 8)) rfl T.gInvalidCollection rfl) pa_nil))) pa_nil)))) (pe_op op_times pe_str (pe_callTy call_int1 (by rfl) B.n_int (by decide +kernel) (pa_cons (pe_callB (call_isPin List.mem_cons_self hC hz hf) (by rfl) B.n_isinstance (by decide +kernel) (pa_cons (pv 0) (pa_cons (pe_glob (v := .ref (c 9)) rfl T.gInvalidNumbers rfl) pa_nil))) pa_nil)))))
      (pss_cons (ps_set (i := 1) scletters.nd rfl (Or.inl rfl) (pe_op op_add_str (pe_op op_add_str (pv 1) (pe_op op_times pe_str (pe_callTy call_int1 (by rfl) B.n_int (by decide +kernel) (pa_cons (pe_callB (call_isPin List.mem_cons_self hC hz hf) (by rfl) B.n_isinstance (by decide +kernel) (pa_cons (pv 0) (pa_cons (pe_glob (v := .ref (c 10)) rfl T.gInvalidPoint rfl) pa_nil))) pa_nil)))) (pe_op op_times pe_str (pe_callTy call_int1 (by rfl) B.n_int (by decide +kernel) (pa_cons (pe_callB (call_isPin List.mem_cons_self hC hz hf) (by rfl) B.n_isinstance (by decide +kernel) (pa_cons (pv 0) (pa_cons (pe_glob (v := .ref (c 11)) rfl T.gInvalidMatrix rfl) pa_nil))) pa_nil)))))
      (pss_one (ps_ret (pe_op op_add_str (pv 1) (pe_op op_times pe_str (pe_callTy call_int1 (by rfl) B.n_int (by decide +kernel) (pa_cons (pe_callB (call_isPin List.mem_cons_self hC hz hf) (by rfl) B.n_isinstance (by decide +kernel) (pa_cons (pv 0) (pa_cons (pe_glob (v := .ref (c 12)) rfl T.gInvalidOperation rfl) pa_nil))) pa_nil)))))))))))), ?_⟩
  exact ⟨_, rfl, _, _, b 0, rfl, fun u r => r, k0, .inr ⟨_, rfl, _, _, rfl, rfl, _, rfl, _, _, b 1, rfl, fun u r => r, k1, .inr ⟨_, rfl, _, _, rfl, rfl, _, _, rfl, rfl, sz pl pl (by decide +kernel), 
      _, rfl, _, rfl, _, _, b 2, rfl, fun u r => r, k2, .inr ⟨_, rfl, _, _, rfl, rfl, _, _, rfl, rfl, sz (ap pl pl) pl (by decide +kernel), _, rfl, _, _, b 3, rfl, fun u r => r, k3, .inr ⟨_, rfl, _, _, rfl, rfl, _, _, rfl, rfl, sz (ap (ap pl pl) pl) pl (by decide +kernel), 
      _, rfl, _, rfl, _, _, b 4, rfl, fun u r => r, k4, .inr ⟨_, rfl, _, _, rfl, rfl, _, _, rfl, rfl, sz (ap (ap (ap pl pl) pl) pl) pl (by decide +kernel), _, rfl, _, _, b 5, rfl, fun u r => r, k5, .inr ⟨_, rfl, _, _, rfl, rfl, _, _, rfl, rfl, sz (ap (ap (ap (ap pl pl) pl) pl) pl) pl (by decide +kernel), 
      _, rfl, _, rfl, _, _, b 6, rfl, fun u r => r, k6, .inr ⟨_, rfl, _, _, rfl, rfl, _, _, rfl, rfl, sz (ap (ap (ap (ap (ap pl pl) pl) pl) pl) pl) pl (by decide +kernel), _, rfl, _, _, b 7, rfl, fun u r => r, k7, .inr ⟨_, rfl, _, _, rfl, rfl, _, _, rfl, rfl, sz (ap (ap (ap (ap (ap (ap pl pl) pl) pl) pl) pl) pl) pl (by decide +kernel), 
      _, rfl, _, rfl, _, _, b 8, rfl, fun u r => r, k8, .inr ⟨_, rfl, _, _, rfl, rfl, _, _, rfl, rfl, sz (ap (ap (ap (ap (ap (ap (ap pl pl) pl) pl) pl) pl) pl) pl) pl (by decide +kernel), _, rfl, _, _, b 9, rfl, fun u r => r, k9, .inr ⟨_, rfl, _, _, rfl, rfl, _, _, rfl, rfl, sz (ap (ap (ap (ap (ap (ap (ap (ap pl pl) pl) pl) pl) pl) pl) pl) pl) pl (by decide +kernel), 
      _, rfl, _, rfl, _, _, b 10, rfl, fun u r => r, k10, .inr ⟨_, rfl, _, _, rfl, rfl, _, _, rfl, rfl, sz (ap (ap (ap (ap (ap (ap (ap (ap (ap pl pl) pl) pl) pl) pl) pl) pl) pl) pl) pl (by decide +kernel), _, rfl, _, _, b 11, rfl, fun u r => r, k11, .inr ⟨_, rfl, _, _, rfl, rfl, _, _, rfl, rfl, sz (ap (ap (ap (ap (ap (ap (ap (ap (ap (ap pl pl) pl) pl) pl) pl) pl) pl) pl) pl) pl) pl (by decide +kernel), 
      _, rfl, _, rfl, _, _, b 12, rfl, fun u r => r, k12, .inr ⟨_, rfl, _, _, rfl, rfl, _, _, rfl, rfl, sz (ap (ap (ap (ap (ap (ap (ap (ap (ap (ap (ap pl pl) pl) pl) pl) pl) pl) pl) pl) pl) pl) pl) pl (by decide +kernel), 
      k⟩⟩⟩⟩⟩⟩⟩⟩⟩⟩⟩⟩⟩⟩
def spCaught (K : PySem.W.Frag) : Sp := fun vs H Q _ => ∃ (v : V) (n : Nat) (d : PyData), vs = [v, .int n] ∧ DR K H v d ∧ d.showable = true ∧ d.depth ≤ 60 ∧ d.shown.length ≤ 900 ∧
  ∀ H', Same H H' → Q (.str (if n = 0 then "base l" else if n = 1 then "refused " ++ d.shown else "many " ++ d.shown)) H'
theorem ok_caught {f fL : Addr} {fd fdL : FuncData} (F : Fun K "_law_caught" "_law_caught" scaught f fd) (FL : Fun K "_law_letters" "_law_letters" sletters fL fdL) (gL : mg "_law_letters" = some (.ref fL)) (bL : Binds K fdL ["_law_error"] []) (B : Blt mg) (T : ErrN mg c) (V0 : Bare K c 13) (A : Ans K c) (S : Six K mg c fi)
    (rs : PySem.W.subIn K (.ref (c 11)) (.type "BaseException") = some true) (rt : PySem.W.typeIn K (.ref (c 11)) = some (.type "type"))
    (m0 : PySem.W.exmOne K (.ref (c 11)) (.ref (c 19)) = some true) (m1 : PySem.W.exmOne K (.ref (c 18)) (.ref (c 19)) = some false) (m2 : PySem.W.exmOne K (.ref (c 18)) (.ref (c 18)) = some true)
    (m3 : PySem.W.exmOne K (.ref (c 17)) (.ref (c 19)) = some false) (m4 : PySem.W.exmOne K (.ref (c 17)) (.ref (c 18)) = some false) (m5 : PySem.W.exmOne K (.ref (c 17)) (.ref (c 17)) = some true) :
    FnG P w K mg base CX0 3 f fd ["_law_worth", "_law_way"] (spCaught K) := by
  have x17 : XfC K (c 17) := ⟨S.t17.ga, S.t17.gg, S.t17.exC, S.t17.hdC⟩
  have x18 : XfC K (c 18) := ⟨S.t18.ga, S.t18.gg, S.t18.exC, S.t18.hdC⟩
  refine VK.Fun.okG F sccaught (fun vs H Q E h => ?_) (fun cdv A' outer s H vs Q E hg hr h => ?_)
  · obtain ⟨v, n, d, rfl, _⟩ := h
    rfl
  · obtain ⟨v, n, d, rfl, hd, sh, dp, dz, k⟩ := h
    have hr1 : Room 1 _ := hr.mono (by decide)
    have hu : (A'.deeper (PyProof.Rows.envOfC "_law_caught" (defScope scaught) s.heap.objs.size f cdv)).units + 64 < cLine := hr.units
    refine ⟨_, pss_one (ps_try_cl (l := [⟨.ref (c 19), some 2, _⟩, ⟨.ref (c 18), some 2, _⟩, ⟨.ref (c 17), some 2, _⟩]) rfl rfl (takes0 (X := cxOf CX0 P w K mg base _ _ _ _ _ _ _ _ _ _))
      (fun W pn xe tk _ => pss_cons (ps_if (pt_cmpR op_eq (pv 1) pe_int (nomark _)) (pss_one (ps_raise rfl tk (pmk_own PySem.F.excBase_ValueError (V0.x 11 (by decide)) T.gInvalidMatrix (V0.k 11 (by decide)) (raises_own rs rt) rfl))) pss_nil)
        (pss_cons (ps_if (pt_cmpR op_eq (pv 1) pe_int (nomark _)) (pss_one (ps_raise rfl tk (pmk_ini S.t18 PySem.F.excBase_ArithmeticError chA PySem.F.store_ArithmeticError fld_pledge hr1 (pa_cons (pv 0) pa_nil) rfl))) pss_nil)
        (pss_one (ps_raise rfl tk (pmk_ini S.t17 PySem.F.excBase_OverflowError chO PySem.F.store_OverflowError fld_limit hr1 (pa_cons (pv 0) pa_nil) rfl)))))
      (.as sccaught.nd rfl rfl ⟨rfl, rfl, .inl T.gDiscError⟩ (fun a oe cls d pn hz hf => pss_one (ps_ret (pe_op op_add_str pe_str (pe_hot (R := fun H Q => cls = .ref (c 11) ∧ d = none ∧ Q (.str (ltext (blT 11))) H) (fun A1 o1 s1 H1 Q1 r1 pin1 e1 q1 => by
        obtain ⟨rfl, rfl, q1⟩ := q1
        exact hot_letters FL bL B T hz hf (A.e 11 (by decide)) (A.l 11 (by decide)) A1 o1 s1 H1 Q1 r1 pin1 e1 q1) hr1 rfl gL FL.kp (pv 2)))))
      (.as sccaught.nd rfl rfl ⟨rfl, rfl, .inl T.gRefused⟩ (fun a oe cls d pn hz hf => pss_one (ps_ret (pe_op op_add_str pe_str (pe_callB (call_reprS hg hu) (by rfl) B.n_repr (by decide +kernel) (pa_cons (pe_xf x18 S.t18.noN hz hf (pv 2)) pa_nil)))))
      (.as sccaught.nd rfl rfl ⟨rfl, rfl, .inl T.gTooMany⟩ (fun a oe cls d pn hz hf => pss_one (ps_ret (pe_op op_add_str pe_str (pe_callB (call_reprS hg hu) (by rfl) B.n_repr (by decide +kernel) (pa_cons (pe_xf x17 S.t17.noN hz hf (pv 2)) pa_nil))))) .nil)))), ?_⟩
    have eb : ("base " ++ ltext (blT 11) : Str) = "base l" := by decide +kernel
    have big : (1000 : Nat) ≤ sizeLine := by decide
    refine ⟨_, rfl, rfl, _, rfl, ?_⟩
    refine ite2 (fun hc => ?_) (fun hc => ?_)
    · have hn : n = 0 := by
        have := V.int.inj (of_decide_eq_true hc)
        omega
      subst hn
      refine ⟨true, m0, fun _ a ha => ?_, fun q => nomatch q⟩
      refine ⟨_, rfl, rfl, rfl, rfl, _, _, rfl, rfl, (by show (5 : Nat) + (ltext (blT 11)).length ≤ sizeLine; decide +kernel), ?_⟩
      have q := k H (Same.refl H)
      show Q (.str ("base " ++ ltext (blT 11))) H
      rw [eb]
      exact q
    · refine ⟨_, rfl, rfl, _, rfl, ?_⟩
      have n0 : n ≠ 0 := fun z => hc (by rw [z]; decide)
      refine ite2 (fun hc1 => ?_) (fun hc1 => ?_)
      · have hn : n = 1 := by
          have := V.int.inj (of_decide_eq_true hc1)
          omega
        subst hn
        refine ⟨_, rfl, v, rfl, fun dd h0 => ⟨false, m1, (fun q => nomatch q), fun _ => ⟨true, m2, fun _ a ha => ?_, fun q => nomatch q⟩⟩⟩
        refine ⟨_, rfl, rfl, rfl, dd, _, v, rfl, upd_same, by simp [List.lookup], v, d, rfl, hd.same (sm h0), sh, dp, by omega, _, _, rfl, rfl, (by show (8 : Nat) + d.shown.length ≤ sizeLine; omega), ?_⟩
        exact k _ (sm h0)
      · have n1 : n ≠ 1 := fun z => hc1 (by rw [z]; decide)
        refine ⟨_, rfl, v, rfl, fun dd h0 => ⟨false, m3, (fun q => nomatch q), fun _ => ⟨false, m4, (fun q => nomatch q), fun _ => ⟨true, m5, fun _ a ha => ?_, fun q => nomatch q⟩⟩⟩⟩
        refine ⟨_, rfl, rfl, rfl, dd, _, v, rfl, upd_same, by simp [List.lookup], v, d, rfl, hd.same (sm h0), sh, dp, by omega, _, _, rfl, rfl, (by show (5 : Nat) + d.shown.length ≤ sizeLine; omega), ?_⟩
        have q : ∀ H', Same H H' → Q (.str ("many " ++ d.shown)) H' := fun H' s => by
          have z := k H' s
          rw [if_neg n0, if_neg n1] at z
          exact z
        exact q _ (sm h0)
end
end VK
/-! K01F -/
set_option maxRecDepth 100000
set_option maxHeartbeats 4000000
namespace VK
open PySem L2
/-! ### sizes of what is kept -/
theorem tup2_len (x : Str) (d : PyData) {n : Nat} (hx : (PyData.shown (.str x)).length ≤ 40) (hd : d.shown.length ≤ 900) : (PyData.shown (.tuple [.str x, d])).length ≤ 950 := by
  have h := tupleText_len_le (PyData.shownAll [.str x, d])
  simp only [PyData.shownAll, List.map_cons, List.map_nil, List.sum_cons, List.sum_nil, List.length_cons, List.length_nil] at h
  simp only [PyData.shown] at hx ⊢
  simp only [PyData.shown] at h
  simp only [PyData.shownAll]
  simp only [PyData.shown]
  omega
theorem tl13 : (PyData.shown (.str (tx 13))).length ≤ 40 := by decide +kernel
theorem tl14 : (PyData.shown (.str (tx 14))).length ≤ 40 := by decide +kernel
theorem tl15 : (PyData.shown (.str (tx 15))).length ≤ 40 := by decide +kernel
theorem tl16 : (PyData.shown (.str (tx 16))).length ≤ 40 := by decide +kernel
theorem tl17 : (PyData.shown (.str (tx 17))).length ≤ 40 := by decide +kernel
theorem tl18 : (PyData.shown (.str (tx 18))).length ≤ 40 := by decide +kernel
theorem kept_len {dW dI : PyData} (hW : dW.shown.length ≤ 900) (hI : dI.shown.length ≤ 900) : (keptD dW dI).shown.length ≤ sizeLine := by
  have h := listText_len_le (PyData.shownAll [.tuple [.str (tx 13), dI], .tuple [.str (tx 14), dW], .tuple [.str (tx 15), dW], .tuple [.str (tx 16), dW], .tuple [.str (tx 17), dW], .tuple [.str (tx 18), dW]])
  have h0 := tup2_len (n := 0) _ _ tl13 hI
  have h1 := tup2_len (n := 0) _ _ tl14 hW
  have h2 := tup2_len (n := 0) _ _ tl15 hW
  have h3 := tup2_len (n := 0) _ _ tl16 hW
  have h4 := tup2_len (n := 0) _ _ tl17 hW
  have h5 := tup2_len (n := 0) _ _ tl18 hW
  have e : (keptD dW dI).shown = listText (PyData.shownAll [.tuple [.str (tx 13), dI], .tuple [.str (tx 14), dW], .tuple [.str (tx 15), dW], .tuple [.str (tx 16), dW], .tuple [.str (tx 17), dW], .tuple [.str (tx 18), dW]]) := by
    simp only [PyData.shown]
  rw [e]
  generalize hg : PyData.shownAll [.tuple [.str (tx 13), dI], .tuple [.str (tx 14), dW], .tuple [.str (tx 15), dW], .tuple [.str (tx 16), dW], .tuple [.str (tx 17), dW], .tuple [.str (tx 18), dW]] = L at h ⊢
  have hL : L = [PyData.shown (.tuple [.str (tx 13), dI]), PyData.shown (.tuple [.str (tx 14), dW]), PyData.shown (.tuple [.str (tx 15), dW]), PyData.shown (.tuple [.str (tx 16), dW]), PyData.shown (.tuple [.str (tx 17), dW]), PyData.shown (.tuple [.str (tx 18), dW])] := by
    rw [← hg]; simp only [PyData.shownAll]
  have hs : (L.map (·.length)).sum + 2 * L.length + 3 ≤ 6000 := by
    rw [hL]
    simp only [List.map_cons, List.map_nil, List.sum_cons, List.sum_nil, List.length_cons, List.length_nil]
    omega
  have b : (6000 : Nat) ≤ sizeLine := by decide
  omega
theorem kept_show {dW dI : PyData} (hW : dW.showable = true) (hI : dI.showable = true) : (keptD dW dI).showable = true := by
  simp [keptD, PyData.showable, PyData.showableAll, hW, hI]
theorem kept_depth {dW dI : PyData} (hW : dW.depth ≤ 50) (hI : dI.depth ≤ 50) : (keptD dW dI).depth ≤ 60 := by
  simp only [keptD, PyData.depth, PyData.depthAll]
  omega
theorem keptD_eq (dW dI : PyData) : keptD dW dI = .list [.tuple [.str "P disc value", dI], .tuple [.str "U key lookup", dW], .tuple [.str "N index lookup", dW], .tuple [.str "Z runtime", dW], .tuple [.str "M overflow arithmetic", dW], .tuple [.str "R arithmetic", dW]] := by
  unfold keptD
  rw [tx13, tx14, tx15, tx16, tx17, tx18]
/-! ### lists of texts as data -/
theorem dpStrs {K : PySem.W.Frag} {H : Hp} : ∀ ts : List Str, DpAll K H (ts.map V.str) (ts.map PyData.str)
  | [] => .nil
  | t :: ts => .cons (.str t) (dpStrs ts)
theorem eqvStrs : ∀ ts : List Str, PyData.eqvAll (ts.map PyData.str) (ts.map PyData.str) = true
  | [] => by simp [PyData.eqvAll]
  | t :: ts => by simp [PyData.eqvAll, PyData.eqv, eqvStrs ts]
theorem eqvList (ts : List Str) : PyData.eqv (.list (ts.map PyData.str)) (.list (ts.map PyData.str)) = true := by
  simp only [PyData.eqv]
  exact eqvStrs ts
theorem shapedStrs (ts : List Str) (h : ∀ t ∈ ts, (PyData.str t).canLay0 = true) : SeqAt.shaped (.list (ts.map PyData.str)) = true := by
  have a : ∀ us : List Str, (∀ t ∈ us, (PyData.str t).canLay0 = true) → PyData.canLayAll0 (us.map PyData.str) = true := fun us => by
    induction us with
    | nil => intro _; simp [PyData.canLayAll0]
    | cons u us ih => intro h; simp [PyData.canLayAll0, h u List.mem_cons_self, ih fun t m => h t (List.mem_cons_of_mem _ m)]
  have d : ∀ us : List Str, PyData.depthAll (us.map PyData.str) ≤ 1 := fun us => by
    induction us with
    | nil => simp [PyData.depthAll]
    | cons u us ih => simp only [List.map_cons, PyData.depthAll, PyData.depth]; omega
  have z := d ts
  unfold SeqAt.shaped
  simp only [PyData.canLay0, PyData.depth, Bool.and_eq_true, decide_eq_true_eq]
  exact ⟨a ts h, decide_eq_true (by omega)⟩
abbrev lz (i : Nat) : Str := ⟨#[("abcdefghijklm" : Str).cps.getD i 0]⟩ ++ " disc value"
theorem lz_tx : (List.range 13).map lz = (List.range 13).map tx := by decide +kernel
theorem rstep (g : Nat → Str) (i : Nat) : ((List.range (i + 1)).map g).map V.str = ((List.range i).map g).map V.str ++ [V.str (g i)] := by
  rw [List.range_succ, List.map_append, List.map_append]
  rfl
end VK
/-! K01G -/
set_option maxRecDepth 100000
set_option maxHeartbeats 4000000
namespace VK
open PySem L2
abbrev sright : Stmt := topS 31
abbrev NR : List Str := ["_law_worth", "_law_index", "_law_due", "_law_told", "_law_error", "_law_letter", "_law_way"]
theorem scright : FnScope NR ["_law_worth", "_law_index"] (defScope sright) := ⟨rfl, rfl, rfl, by decide +kernel, rfl, by decide +kernel, by decide +kernel⟩
/-- what caught tells for dW, by the way -/
abbrev told (dW : PyData) (n : Nat) : Str := if n = 0 then "base l" else if n = 1 then "refused " ++ dW.shown else "many " ++ dW.shown
def spRight (K : PySem.W.Frag) : Sp := fun vs H Q _ => ∃ (v u : V) (dW dI : PyData), vs = [v, u] ∧ DR K H v dW ∧ DR K H u dI ∧ dW.showable = true ∧ dI.showable = true ∧ dW.depth ≤ 50 ∧ dI.depth ≤ 50 ∧ dW.shown.length ≤ 900 ∧ dI.shown.length ≤ 900 ∧
  ∀ H', Same H H' → Q (.bl true) H'
section
variable {P : Program} {w : World} {K : PySem.W.Frag} {mg : Str → Option Value} {base : Heap} {c : Nat → Addr}
theorem ok_right {f fM fA fK fC : Addr} {fd fdM fdA fdK fdC : FuncData} (F : Fun K "_law_right" "_law_right" sright f fd)
    (FM : Fun K "_law_made_all" "_law_made_all" smadeall fM fdM) (GM : FnOk P w K mg base CX0 1 fM fdM [] (spMade c)) (gM : mg "_law_made_all" = some (.ref fM)) (bM : Binds K fdM [] [])
    (FA : Fun K "_law_all" "_law_all" sall fA fdA) (GA : FnOk P w K mg base CX0 2 fA fdA ["_law_error"] (spAll K c)) (gA : mg "_law_all" = some (.ref fA)) (bA : Binds K fdA ["_law_error"] [])
    (FK : Fun K "_law_kept" "_law_kept" skept fK fdK) (GK : FnOk P w K mg base CX0 3 fK fdK ["_law_worth", "_law_index"] (spKept K)) (gK : mg "_law_kept" = some (.ref fK)) (bK : Binds K fdK ["_law_worth", "_law_index"] [])
    (FC : Fun K "_law_caught" "_law_caught" scaught fC fdC) (GC : FnG P w K mg base CX0 3 fC fdC ["_law_worth", "_law_way"] (spCaught K)) (gC : mg "_law_caught" = some (.ref fC)) (bC : Binds K fdC ["_law_worth", "_law_way"] [])
    (B : Blt mg) (T : ErrN mg c) (A : Ans K c) (x19 : PySem.W.excIn K (c 19) veMro "ValueError.__new__" = true) (k19 : PySem.W.keepIn K (.ref (c 19)) = true) :
    FnG P w K mg base CX0 4 f fd ["_law_worth", "_law_index"] (spRight K) := by
  refine VK.Fun.okG F scright (fun vs H Q E h => ?_) (fun cdv A' outer s H vs Q E hg hr h => ?_)
  · obtain ⟨v, u, dW, dI, rfl, _⟩ := h
    rfl
  · obtain ⟨v, u, dW, dI, rfl, hW, hI, sW, sI, pW, pI, zW, zI, k⟩ := h
    have hr1 : Room 1 _ := hr.mono (by decide)
    have hr2 : Room 2 _ := hr.mono (by decide)
    have hu : (A'.deeper (PyProof.Rows.envOfC "_law_right" (defScope sright) s.heap.objs.size f cdv)).units + 64 < cLine := hr.units
    refine ⟨_, (pss_cons (ps_if (pt_cmpR (op_neD hu) (pe_lc (own := [("_law_error", 4)]) (g := gName 4) (tt := tYes) rfl scright.nd (pi_list (pe_call0 GM hr1 rfl gM FM.kp bM .nil pass0)) (blkOk_by (N := NR) (sc := defScope sright) (by decide +kernel)) (fun _ _ _ _ _ => pg_name (i := 4) scright.nd rfl (Or.inl rfl)) (fun _ _ _ _ _ => pts_nil) (fun _ _ _ _ _ => (pe_call GA hr2 rfl gA FA.kp bA .nil pass0 (pa_cons (pv 4) pa_nil))))
      (pe_lc (own := [("_law_letter", 5)]) (g := gName 5) (tt := tYes) rfl scright.nd (pi_str pe_str) (blkOk_by (N := NR) (sc := defScope sright) (by decide +kernel)) (fun _ _ _ _ _ => pg_name (i := 5) scright.nd rfl (Or.inl rfl)) (fun _ _ _ _ _ => pts_nil) (fun _ _ _ _ _ => (pe_op op_add_str (pv 5) pe_str))) (nomark _)) (pss_one (ps_ret pe_bl)) pss_nil)
  (pss_cons (ps_set (i := 2) scright.nd rfl (Or.inl rfl) (pe_lst (pa_cons (pe_tup (pa_cons pe_str (pa_cons (pv 1) pa_nil))) (pa_cons (pe_tup (pa_cons pe_str (pa_cons (pv 0) pa_nil))) (pa_cons (pe_tup (pa_cons pe_str (pa_cons (pv 0) pa_nil))) (pa_cons (pe_tup (pa_cons pe_str (pa_cons (pv 0) pa_nil))) pa_nil))))))
  (pss_cons (ps_set (i := 2) scright.nd rfl (Or.inl rfl) (pe_op op_cat (pv 2) (pe_lst (pa_cons (pe_tup (pa_cons pe_str (pa_cons (pv 0) pa_nil))) (pa_cons (pe_tup (pa_cons pe_str (pa_cons (pv 0) pa_nil))) pa_nil)))))
  (pss_cons (ps_if (PW.pt (pw_or (pt_cmpR op_ne (pe_callB (call_reprD hg hu) (by rfl) B.n_repr (by decide +kernel) (pa_cons (pe_call GK hr rfl gK FK.kp bK .nil pass0 (pa_cons (pv 0) (pa_cons (pv 1) pa_nil))) pa_nil)) (pe_callB (call_reprD hg hu) (by rfl) B.n_repr (by decide +kernel) (pa_cons (pv 2) pa_nil)) (nomark _))
      (pw_or1 (pt_cmpR op_ne (pe_call GA hr2 rfl gA FA.kp bA .nil pass0 (pa_cons (pe_exc1 PySem.F.excBase_ValueError x19 T.gDiscError k19 rfl pe_str) pa_nil)) pe_str (nomark _))))) (pss_one (ps_ret pe_bl)) pss_nil)
  (pss_cons (ps_setLc (i := 3) (own := [("_law_way", 6)]) (g := gName 6) (tt := tYes) rfl scright.nd rfl rfl (sw_true rfl rfl rfl (by decide +kernel)) (pi_range1 rfl B.n_range (pa_cons pe_int pa_nil)) (blkOk_by (N := NR) (sc := defScope sright) (by decide +kernel)) (fun _ _ _ _ _ => pg_name (i := 6) scright.nd rfl (Or.inl rfl)) (fun _ _ _ _ _ => pts_nil) (fun _ _ _ _ _ => (pe_callG GC hg hr rfl gC FC.kp bC pass0 (pa_cons (pv 0) (pa_cons (pv 6) pa_nil)))))
  (pss_one (ps_ret (pe_cmpR (op_eqV hu) (pv 3) (pe_lst (pa_cons pe_str (pa_cons (pe_op op_add_str pe_str (pe_callB (call_reprD hg hu) (by rfl) B.n_repr (by decide +kernel) (pa_cons (pv 0) pa_nil))) (pa_cons (pe_op op_add_str pe_str (pe_callB (call_reprD hg hu) (by rfl) B.n_repr (by decide +kernel) (pa_cons (pv 0) pa_nil))) pa_nil)))) (nomark _))))))))), ?_⟩
    have one : (1000 : Nat) ≤ sizeLine := by decide
    have wz : ∀ {z : Nat}, z ≤ 900 → z ≤ sizeLine := fun h => by omega
    refine ⟨rfl, fun p as H1 s1 hlen e1 h1 => ⟨p, rfl, ⟨_, SqL.of h1⟩, fun D hD => lc_list (xs := as.map V.ref) (fun i H' => H' = upd H1 D (.lst (((List.range i).map tx).map V.str))) rfl
      (fun i H' _ e => by subst e; exact SqL.of (sm hD _ _ h1))
      (fun i x H' hx e => ?_) (fun H' e => ?_)⟩⟩
    · subst e
      rw [List.getElem?_map] at hx
      obtain ⟨a, ha, rfl⟩ := Option.map_eq_some_iff.mp hx
      have hi : i < 13 := by
        obtain ⟨q, _⟩ := List.getElem?_eq_some_iff.mp ha
        omega
      refine ⟨rfl, _, rfl, a, c i, blT i, bkT i, rfl, (e1 i a _ ha rfl).same (sm hD), A.e i (by omega), A.l i (by omega), A.k i (by omega), _, upd_same, ?_, ?_⟩
      · simp only [List.length_map, List.length_range]
        omega
      · rw [upd_upd, rstep tx i]
    subst e
    rw [List.length_map, hlen]
    refine ⟨_, rfl, fun D2 hD2 => lc_it walk_str (fun i H' => H' = upd (upd H1 D (.lst (((List.range 13).map tx).map V.str))) D2 (.lst (((List.range i).map lz).map V.str))) rfl (fun _ _ _ _ => trivial)
      (fun i x H' H'' hi e y => ?_) (fun H' e => ?_)⟩
    · subst e
      obtain ⟨rfl, cc, hc, rfl⟩ := y
      have hi' : i < 13 := hi
      have hc' : ("abcdefghijklm" : Str).cps[i]? = some cc := hc
      refine ⟨rfl, _, rfl, _, _, rfl, rfl, ?_, _, upd_same, ?_, ?_⟩
      · show (1 : Nat) + 11 ≤ sizeLine
        decide
      · simp only [List.length_map, List.length_range]
        omega
      · rw [upd_upd, rstep lz i]
        have e : lz i = ⟨#[cc]⟩ ++ " disc value" := by
          unfold lz
          rw [Array.getD_eq_getD_getElem?, hc']
          rfl
        rw [e]
    have hz : H' = upd (upd H1 D (.lst (((List.range 13).map tx).map V.str))) D2 (.lst (((List.range 13).map lz).map V.str)) := e
    clear e
    subst hz
    rw [lz_tx]
    have sh := shapedStrs ((List.range 13).map tx) (by decide +kernel)
    refine ⟨_, _, Dp.lst (SqL.of (sm hD2 _ _ upd_same)) (dpStrs _), Dp.lst (SqL.of upd_same) (dpStrs _), sh, sh, _, rfl, ?_⟩
    rw [eqvList]
    have S0 : Same H (upd (upd H1 D (.lst (((List.range 13).map tx).map V.str))) D2 (.lst (((List.range 13).map tx).map V.str))) := (s1.trans (sm hD)).trans (sm hD2)
    generalize (upd (upd H1 D (.lst (((List.range 13).map tx).map V.str))) D2 (.lst (((List.range 13).map tx).map V.str))) = H3 at S0 ⊢
    refine ite2 (fun hc => absurd hc (by decide)) (fun _ => ?_)
    refine ⟨_, rfl, by show 2 ≤ sizeLine; decide, fun t0 n0 => ⟨_, rfl, by show 2 ≤ sizeLine; decide, fun t1 n1 => ⟨_, rfl, by show 2 ≤ sizeLine; decide, fun t2 n2 => ⟨_, rfl, by show 2 ≤ sizeLine; decide, fun t3 n3 => ⟨by show 4 ≤ sizeLine; decide, fun l0 m0 => ?_⟩⟩⟩⟩⟩
    refine ⟨_, rfl, _, rfl, by show 2 ≤ sizeLine; decide, fun t4 n4 => ⟨_, rfl, by show 2 ≤ sizeLine; decide, fun t5 n5 => ⟨by show 2 ≤ sizeLine; decide, fun l1 m1 => ⟨_, _, _, _, rfl, rfl, (((sm n4).trans (sm n5)).trans (sm m1)) _ _ upd_same, upd_same, by show 6 ≤ sizeLine; decide, fun l2 m2 => ?_⟩⟩⟩⟩
    have SA := S0.trans (((((((((sm n0).trans (sm n1)).trans (sm n2)).trans (sm n3)).trans (sm m0)).trans (sm n4)).trans (sm n5)).trans (sm m1)).trans (sm (o := (HO.lst ([V.ref t0, V.ref t1, V.ref t2, V.ref t3] ++ [V.ref t4, V.ref t5]))) m2))
    have hK := DR.lst (K := K) (SqL.of (upd_same (o := (HO.lst ([V.ref t0, V.ref t1, V.ref t2, V.ref t3] ++ [V.ref t4, V.ref t5]))))) (DRs.cons (DR.tup (SqT.of (((((((((sm n1).trans (sm n2)).trans (sm n3)).trans (sm m0)).trans (sm n4)).trans (sm n5)).trans (sm m1)).trans (sm m2)) _ _ upd_same)) (.cons (.str _) (.cons (hI.same SA) .nil))) (DRs.cons (DR.tup (SqT.of ((((((((sm n2).trans (sm n3)).trans (sm m0)).trans (sm n4)).trans (sm n5)).trans (sm m1)).trans (sm m2)) _ _ upd_same)) (.cons (.str _) (.cons (hW.same SA) .nil))) (DRs.cons (DR.tup (SqT.of (((((((sm n3).trans (sm m0)).trans (sm n4)).trans (sm n5)).trans (sm m1)).trans (sm m2)) _ _ upd_same)) (.cons (.str _) (.cons (hW.same SA) .nil))) (DRs.cons (DR.tup (SqT.of ((((((sm m0).trans (sm n4)).trans (sm n5)).trans (sm m1)).trans (sm m2)) _ _ upd_same)) (.cons (.str _) (.cons (hW.same SA) .nil))) (DRs.cons (DR.tup (SqT.of ((((sm n5).trans (sm m1)).trans (sm m2)) _ _ upd_same)) (.cons (.str _) (.cons (hW.same SA) .nil))) (DRs.cons (DR.tup (SqT.of (((sm m1).trans (sm m2)) _ _ upd_same)) (.cons (.str _) (.cons (hW.same SA) .nil))) DRs.nil))))))
    have S1 := SA
    rw [← keptD_eq dW dI] at hK
    clear SA
    generalize upd _ l2 (HO.lst ([V.ref t0, V.ref t1, V.ref t2, V.ref t3] ++ [V.ref t4, V.ref t5])) = H7 at hK S1 ⊢
    have aS := kept_show sW sI
    have aD := kept_depth pW pI
    have aL := kept_len zW zI
    refine ⟨_, rfl, _, rfl, v, u, dW, dI, rfl, hW.same S1, hI.same S1, fun p' H8 S2 dr => ⟨_, _, rfl, dr, aS, aD, aL, _, rfl, _, keptD dW dI, rfl, hK.same S2, aS, aD, aL, rfl, _, rfl, ?_⟩⟩
    refine ite2 (fun hc => absurd hc (by simp)) (fun _ => ?_)
    intro a9 n9
    refine ⟨_, _, blT 19, bkT 19, rfl, .bare upd_same, A.e 19 (by decide), A.l 19 (by decide), A.k 19 (by decide), rfl, _, rfl, ?_⟩
    have tt : decide (V.str (ltext (blT 19) ++ ktext (bkT 19)) = V.str " disc value") = true := by decide +kernel
    refine ite2 (fun hc => absurd hc (by rw [tt]; decide)) (fun _ => ?_)
    have S3 := (S1.trans S2).trans (sm (o := ExO (.ref (c 19)) a9) n9)
    generalize upd H8 a9 _ = H9 at S3 ⊢
    have tw : dW.depth ≤ 60 := Nat.le_trans pW (by decide)
    have zL := Nat.le_trans zW (by decide : (900 : Nat) ≤ sizeLine)
    refine ⟨3, rfl, by decide, by decide, fun D3 hD3 => lc_range (lo := 0) (n := Int.toNat 3) (g := gName 6) (tt := tYes) (te := fun σ H Q => tCons (tVar 0) (tCons (tVar 6) tNil) σ H fun vs H1 => spCaught K vs H1 Q E0) (fun i H' => Same H9 H' ∧ H' D3 = some (.lst (((List.range i).map (told dW)).map V.str))) ⟨sm hD3, upd_same⟩
      (fun i H' hi pv => ?_) (fun H' pv => ?_)⟩
    · obtain ⟨sA, hL⟩ := pv
      refine ⟨rfl, _, rfl, _, rfl, v, i, dW, ?_, hW.same (S3.trans sA), sW, tw, zW, fun H'' sB => ⟨_, sB _ _ hL, ?_, fun b o e => ?_, ?_⟩⟩
      · rw [Int.zero_add]
      · simp only [List.length_map, List.length_range]
        omega
      · exact (upd_ne (ne_of_none e hD3)).trans (sB _ _ (sA _ _ e))
      · rw [rstep (told dW) i]
        exact upd_same
    · obtain ⟨sA, hL⟩ := pv
      have b1 : (8 : Nat) + dW.shown.length ≤ sizeLine := Nat.le_trans (Nat.add_le_add_left zW 8) (by decide)
      have b2 : (5 : Nat) + dW.shown.length ≤ sizeLine := Nat.le_trans (Nat.add_le_add_left zW 5) (by decide)
      refine ⟨_, rfl, _, rfl, v, dW, rfl, hW.same (S3.trans sA), sW, tw, zL, _, _, rfl, rfl, b1, _, rfl, v, dW, rfl, hW.same (S3.trans sA), sW, tw, zL, _, _, rfl, rfl, b2, by show 3 ≤ sizeLine; decide, fun q nq => ?_⟩
      refine ⟨1, by decide, .inl ⟨_, _, _, _, rfl, rfl, SqL.of (sm nq _ _ hL), SqL.of upd_same, .cons (.inl ⟨rfl, rfl⟩) (.cons (.inl ⟨rfl, rfl⟩) (.cons (.inl ⟨rfl, rfl⟩) .nil))⟩, ?_⟩
      exact k _ ((S3.trans sA).trans (sm nq))
end
end VK
/-! K01H -/
set_option maxRecDepth 100000
set_option maxHeartbeats 4000000
namespace VK
open PySem L2
/-! ### the heap without the dice -/
def Off (d : Addr) (H : Hp) : Hp := fun b => if b = d then none else H b
section
variable {H H' : Hp} {d : Addr}
theorem off_at {t : Addr} {o : HO} (n : t ≠ d) (h : H t = some o) : Off d H t = some o := by
  unfold Off
  rw [if_neg n]
  exact h
theorem off_in : Same (Off d H) H := fun b u e => by
  unfold Off at e
  by_cases c : b = d
  · rw [if_pos c] at e
    cases e
  · rw [if_neg c] at e
    exact e
theorem off_same (s : Same H H') : Same (Off d H) (Off d H') := fun b u e => by
  by_cases c : b = d
  · unfold Off at e
    rw [if_pos c] at e
    cases e
  · exact off_at c (s _ _ (off_in _ _ e))
theorem off_rolled (r : Rolled d H H') : Same (Off d H) (Off d H') := by
  obtain ⟨x, y, z, rfl⟩ := r
  intro b u e
  by_cases c : b = d
  · unfold Off at e
    rw [if_pos c] at e
    cases e
  · exact off_at c ((upd_ne c).trans (off_in _ _ e))
theorem off_new (n : H d = none) (s : Same (upd H d o) H') : Same H (Off d H') := fun b u e => by
  have c := ne_of_none e n
  exact off_at c (s _ _ ((upd_ne c).trans e))
theorem rolled_dice (r : Rolled d H H') : Dice H' d := by
  obtain ⟨x, y, z, rfl⟩ := r
  exact ⟨x, y, z, upd_same⟩
theorem rolled_at {t : Addr} {o : HO} (r : Rolled d H H') (n : t ≠ d) (h : H t = some o) : H' t = some o := by
  obtain ⟨x, y, z, rfl⟩ := r
  exact (upd_ne n).trans h
end
/-- a worth that can be told -/
def Good (K : PySem.W.Frag) (H : Hp) (v : V) : Prop := ∃ D : PyData, DR K H v D ∧ D.showable = true ∧ D.depth ≤ 50 ∧ D.shown.length ≤ 900
theorem Good.same {K : PySem.W.Frag} {H H' : Hp} {v : V} (g : Good K H v) (s : Same H H') : Good K H' v := by
  obtain ⟨D, h, r⟩ := g
  exact ⟨D, h.same s, r⟩
theorem big40 : (PyData.int ((10 : Int) ^ (40 : Int).toNat)).showable = true ∧ (PyData.int ((10 : Int) ^ (40 : Int).toNat)).depth ≤ 50 ∧ (PyData.int ((10 : Int) ^ (40 : Int).toNat)).shown.length ≤ 900 := by decide +kernel
theorem big30 : (PyData.int ((10 : Int) ^ (30 : Int).toNat)).showable = true ∧ (PyData.int ((10 : Int) ^ (30 : Int).toNat)).depth ≤ 50 ∧ (PyData.int ((10 : Int) ^ (30 : Int).toNat)).shown.length ≤ 900 := by decide +kernel
theorem sm2 {H : Hp} {p : Addr} {o o' : HO} (n : H p = none) : Same H (upd (upd H p o) p o') := by
  rw [upd_upd]
  exact sm n
abbrev someV (t0 l0 e0 t3 : Addr) : List V := [.non, .bl true, .int 0, .str "7", .str "", .ref t0, .ref l0, .ref e0, .ref t3, .str "rim a b", .int ((10 : Int) ^ (40 : Int).toNat)]
theorem worths {K : PySem.W.Frag} {H : Hp} {t0 l0 e0 t1 t2 t3 : Addr} (h0 : H t0 = some (.tup [.int 4, .int 6])) (h1 : H l0 = some (.lst [.int 7])) (h2 : H e0 = some (.dK [(.inl 7, .int 7)])) (h3 : H t1 = some (.tup [])) (h4 : H t2 = some (.tup [.str "a", .int 1]))
    (h5 : H t3 = some (.tup [.ref t1, .ref t2])) : ∀ v ∈ someV t0 l0 e0 t3, Good K H v := by
  intro v hv
  simp only [someV, List.mem_cons, List.not_mem_nil, or_false] at hv
  rcases hv with rfl | rfl | rfl | rfl | rfl | rfl | rfl | rfl | rfl | rfl | rfl
  · exact ⟨_, .non, by decide +kernel⟩
  · exact ⟨_, .bl true, by decide +kernel⟩
  · exact ⟨_, .int 0, by decide +kernel⟩
  · exact ⟨_, .str "7", by decide +kernel⟩
  · exact ⟨_, .str "", by decide +kernel⟩
  · exact ⟨_, .tup (SqT.of h0) (.cons (.int 4) (.cons (.int 6) .nil)), by decide +kernel⟩
  · exact ⟨_, .lst (SqL.of h1) (.cons (.int 7) .nil), by decide +kernel⟩
  · exact ⟨_, .dic h2 (.cons (.int 7) .nil), by decide +kernel⟩
  · exact ⟨_, .tup (SqT.of h5) (.cons (.tup (SqT.of h3) .nil) (.cons (.tup (SqT.of h4) (.cons (.str "a") (.cons (.int 1) .nil))) .nil)), by decide +kernel⟩
  · exact ⟨_, .str "rim a b", by decide +kernel⟩
  · exact ⟨_, .int _, big40⟩
abbrev indexV : List V := [.non, .int 0, .int 3, .int ((10 : Int) ^ (30 : Int).toNat)]
theorem indices {K : PySem.W.Frag} {H : Hp} : ∀ v ∈ indexV, Good K H v := by
  intro v hv
  simp only [indexV, List.mem_cons, List.not_mem_nil, or_false] at hv
  rcases hv with rfl | rfl | rfl | rfl
  · exact ⟨_, .non, by decide +kernel⟩
  · exact ⟨_, .int 0, by decide +kernel⟩
  · exact ⟨_, .int 3, by decide +kernel⟩
  · exact ⟨_, .int _, big30⟩
abbrev slaw : Stmt := topS 32
theorem sclaw : FnScope ["_law_script", "_law_spot", "_law_dice_here", "_law_some"] ["_law_script"] (defScope slaw) := ⟨rfl, rfl, rfl, by decide +kernel, rfl, by decide +kernel, by decide +kernel⟩
def spLaw (K : PySem.W.Frag) : Sp := fun vs H Q _ => ∃ (s : Addr) (ns : List Int), vs = [.ref s] ∧ SqL K H s (ns.map V.int) ∧ ns.length ≤ 1000000 ∧ ∀ H', Q (.bl true) H'
section
variable {P : Program} {w : World} {K : PySem.W.Frag} {mg : Str → Option Value} {base : Heap} {c : Nat → Addr}
theorem ok_law {f fD fP fR : Addr} {fd fdD fdP fdR : FuncData} (F : Fun K "law" "law" slaw f fd)
    (FD : Fun K "_law_dice" "_law_dice" sdice fD fdD) (GD : FnOk P w K mg base CX0 1 fD fdD ["_law_script", "_law_spot"] (spDice K)) (gD : mg "_law_dice" = some (.ref fD)) (bD : Binds K fdD ["_law_script", "_law_spot"] [])
    (FP : Fun K "_law_pick" "_law_pick" spick fP fdP) (GP : FnOk P w K mg base CX0 2 fP fdP ["_law_dice_here", "_law_items"] spPick) (gP : mg "_law_pick" = some (.ref fP)) (bP : Binds K fdP ["_law_dice_here", "_law_items"] [])
    (FR : Fun K "_law_right" "_law_right" sright fR fdR) (GR : FnG P w K mg base CX0 4 fR fdR ["_law_worth", "_law_index"] (spRight K)) (gR : mg "_law_right" = some (.ref fR)) (bR : Binds K fdR ["_law_worth", "_law_index"] [])
    (B : Blt mg) : FnG P w K mg base CX0 5 f fd ["_law_script"] (spLaw K) := by
  refine VK.Fun.okG F sclaw (fun vs H Q E h => ?_) (fun cdv A' outer s H vs Q E hg hr h => ?_)
  · obtain ⟨s, ns, rfl, _⟩ := h
    rfl
  · obtain ⟨sc, ns, rfl, hs, hl, k⟩ := h
    have hr1 : Room 1 _ := hr.mono (by decide)
    have hr2 : Room 2 _ := hr.mono (by decide)
    have hu : (A'.deeper (PyProof.Rows.envOfC "law" (defScope slaw) s.heap.objs.size f cdv)).units + 64 < cLine := hr.units
    refine ⟨_, PSs.nox (pss_cons (ps_for PassesOwn.never rfl (pi_range1 (by rfl) B.n_range (pa_cons (pe_callB (call_max2 rfl) (by rfl) B.n_max (by decide +kernel) (pa_cons pe_int (pa_cons (pe_callB (call_min2 rfl) (by rfl) B.n_min (by decide +kernel) (pa_cons pe_int (pa_cons (pe_callB call_len_seq (by rfl) B.n_len (by decide +kernel) (pa_cons (pv 0) pa_nil)) pa_nil))) pa_nil))) pa_nil)) (pg_name (i := 1) sclaw.nd rfl (Or.inl rfl)) (pss_cons (ps_set (i := 2) sclaw.nd rfl (Or.inl rfl) (pe_call GD hr1 rfl gD FD.kp bD .nil pass0 (pa_cons (pv 0) (pa_cons (pv 1) pa_nil))))
  (pss_cons (ps_set (i := 3) sclaw.nd rfl (Or.inl rfl) (pe_lst (pa_cons pe_non (pa_cons pe_bl (pa_cons pe_int (pa_cons pe_str (pa_cons pe_str (pa_cons (pe_tup (pa_cons pe_int (pa_cons pe_int pa_nil))) (pa_cons (pe_lst (pa_cons pe_int pa_nil)) (pa_cons (pe_disp (pps_cons pe_int pe_int pps_nil) rfl rfl (by decide) (by decide)) (pa_cons (pe_tup (pa_cons (pe_tup pa_nil) (pa_cons (pe_tup (pa_cons pe_str (pa_cons pe_int pa_nil))) pa_nil))) (pa_cons pe_str (pa_cons (pe_op op_pow pe_int pe_int) pa_nil)))))))))))))
  (pss_one (ps_if (pt_not (pt_val (pe_callG GR hg hr rfl gR FR.kp bR pass0 (pa_cons (pe_call GP hr2 rfl gP FP.kp bP .nil pass0 (pa_cons (pv 2) (pa_cons (pv 3) pa_nil))) (pa_cons (pe_call GP hr2 rfl gP FP.kp bP .nil pass0 (pa_cons (pv 2) (pa_cons (pe_lst (pa_cons pe_non (pa_cons pe_int (pa_cons pe_int (pa_cons (pe_op op_pow pe_int pe_int) pa_nil))))) pa_nil))) pa_nil))))) (pss_one (ps_ret pe_bl)) pss_nil)))))
  (pss_one (ps_ret pe_bl))), ?_⟩
    refine ⟨_, rfl, sc, _, rfl, .inl hs, _, _, rfl, _, _, rfl, _, rfl, ?_, ?_, for_range (fun _ σ H' => ∃ x y z, σ = [some (.ref sc), x, y, z] ∧ SqL K H' sc (ns.map V.int)) ⟨_, _, _, rfl, hs⟩ (fun i σ H0 hi pv => ?_) (fun σ H' pv => ?_)⟩
    · split <;> split <;> omega
    · split <;> split <;> omega
    · obtain ⟨x, y, z, rfl, hs0⟩ := pv
      refine ⟨_, rfl, _, rfl, sc, ns, i, ?_, hs0, fun d a b c nd => ?_⟩
      · rw [Int.zero_add]
        rfl
      have hd1 : (upd H0 d (HO.lst [V.int a, V.int b, V.int c])) d = some (HO.lst [V.int a, V.int b, V.int c]) := upd_same
      have S1 : Same H0 (Off d (upd H0 d (HO.lst [V.int a, V.int b, V.int c]))) := off_new nd (Same.refl _)
      generalize upd H0 d (HO.lst [V.int a, V.int b, V.int c]) = H1 at hd1 S1 ⊢
      have p40 : CPow 10 40 := ⟨by decide, by decide, by decide⟩
      have p30 : CPow 10 30 := ⟨by decide, by decide, by decide⟩
      refine ⟨by show 2 ≤ sizeLine; decide, fun t0 n0 => ⟨by show 1 ≤ sizeLine; decide, fun l0 m0 => fun e0 k0 => ⟨upd_same, [(.inl 7, .int 7)], rfl, by decide, ?_⟩⟩⟩
      refine ⟨by show 0 ≤ sizeLine; decide, fun t1 n1 => ⟨by show 2 ≤ sizeLine; decide, fun t2 n2 => ⟨by show 2 ≤ sizeLine; decide, fun t3 n3 => ⟨_, _, rfl, rfl, p40, by show 11 ≤ sizeLine; decide, fun l1 m1 => ?_⟩⟩⟩⟩
      have z0 : t0 ≠ d := (ne_of_none ((Same.refl _) _ _ hd1) n0).symm
      have z1 : l0 ≠ d := (ne_of_none ((sm n0) _ _ hd1) m0).symm
      have z2 : e0 ≠ d := (ne_of_none (((sm n0).trans (sm m0)) _ _ hd1) k0).symm
      have z3 : t1 ≠ d := (ne_of_none ((((sm n0).trans (sm m0)).trans (sm2 k0)) _ _ hd1) n1).symm
      have z4 : t2 ≠ d := (ne_of_none (((((sm n0).trans (sm m0)).trans (sm2 k0)).trans (sm n1)) _ _ hd1) n2).symm
      have z5 : t3 ≠ d := (ne_of_none ((((((sm n0).trans (sm m0)).trans (sm2 k0)).trans (sm n1)).trans (sm n2)) _ _ hd1) n3).symm
      have z6 : l1 ≠ d := (ne_of_none (((((((sm n0).trans (sm m0)).trans (sm2 k0)).trans (sm n1)).trans (sm n2)).trans (sm n3)) _ _ hd1) m1).symm
      have S2 := (((((((sm n0).trans (sm m0)).trans (sm2 k0)).trans (sm n1)).trans (sm n2)).trans (sm n3)).trans (sm (o := HO.lst (someV t0 l0 e0 t3)) m1))
      have hd2 := S2 _ _ hd1
      have W := worths (K := K) (off_at z0 (((((((sm m0).trans (sm2 k0)).trans (sm n1)).trans (sm n2)).trans (sm n3)).trans (sm (o := HO.lst (someV t0 l0 e0 t3)) m1)) _ _ upd_same)) (off_at z1 ((((((sm2 k0).trans (sm n1)).trans (sm n2)).trans (sm n3)).trans (sm (o := HO.lst (someV t0 l0 e0 t3)) m1)) _ _ upd_same)) (off_at z2 (((((sm n1).trans (sm n2)).trans (sm n3)).trans (sm (o := HO.lst (someV t0 l0 e0 t3)) m1)) _ _ upd_same)) (off_at z3 ((((sm n2).trans (sm n3)).trans (sm (o := HO.lst (someV t0 l0 e0 t3)) m1)) _ _ upd_same)) (off_at z4 (((sm n3).trans (sm (o := HO.lst (someV t0 l0 e0 t3)) m1)) _ _ upd_same)) (off_at z5 ((sm (o := HO.lst (someV t0 l0 e0 t3)) m1) _ _ upd_same))
      refine ⟨_, rfl, _, rfl, d, l1, someV t0 l0 e0 t3, rfl, by show 0 < 11; decide, by show 11 < 1000000; decide, ⟨_, _, _, hd2⟩, upd_same, z6.symm, fun v H3 hv R1 => ?_⟩
      have T1 := (S1.trans (off_same S2)).trans (off_rolled R1)
      have g1 := (W v hv).same (off_rolled R1)
      obtain ⟨x3, y3, z3', hd3⟩ := rolled_dice R1
      refine ⟨_, rfl, _, _, rfl, rfl, p30, by show 4 ≤ sizeLine; decide, fun l2 m2 => ?_⟩
      refine ⟨d, l2, indexV, rfl, by show 0 < 4; decide, by show 4 < 1000000; decide, ⟨_, _, _, (sm m2) _ _ hd3⟩, upd_same, ne_of_none hd3 m2, fun u H4 hu' R2 => ?_⟩
      have T2 := (T1.trans (off_same (sm (o := HO.lst indexV) m2))).trans (off_rolled R2)
      have g2 := ((g1.same (off_same (sm (o := HO.lst indexV) m2))).same (off_rolled R2)).same off_in
      obtain ⟨dW, hW, sW, pW, zW⟩ := g2
      obtain ⟨dI, hI, sI, pI, zI⟩ := indices (K := K) (H := H4) u hu'
      refine ⟨v, u, dW, dI, rfl, hW, hI, sW, sI, pW, pI, zW, zI, fun H5 s5 => ?_⟩
      have T3 := T2.trans (off_same s5)
      exact ⟨_, rfl, _, _, _, rfl, off_in.seq (T3.seq hs0)⟩
    · exact k H'
end
end VK
/-! K01I -/
set_option maxRecDepth 100000
set_option maxHeartbeats 4000000
/-! what the top has left, asked of the written part by tests -/
namespace VK
open PySem L2
abbrev en : List Str := ["InvalidDisc", "InvalidPairing", "InvalidLeaning", "InvalidOrder", "InvalidSet", "InvalidNecklace", "InvalidDiagram", "InvalidMove", "InvalidCollection", "InvalidNumbers", "InvalidPoint", "InvalidMatrix", "InvalidOperation", "ParseError", "UnknownName", "InvalidNumber", "NothingToUndo", "TooMany", "Refused", "DiscError"]
/-- where the name stands -/
def adr (K : PySem.W.Frag) (x : Str) : Addr := match PySem.W.nsIn K mainGlobals x with
  | some (some (.ref a)) => a
  | _ => 0
def hasR (o : Option (Option Value)) : Bool := match o with
  | some (some (.ref _)) => true
  | _ => false
def noneR (o : Option (Option Value)) : Bool := match o with
  | some none => true
  | _ => false
def isB (o : Option (Option Value)) (n : String) : Bool := match o with
  | some (some (.builtin m)) => m == n
  | _ => false
def isT (o : Option Value) (n : String) : Bool := match o with
  | some (.type m) => m == n
  | _ => false
theorem noneR_eq {o : Option (Option Value)} (h : noneR o = true) : o = some none := by
  unfold noneR at h
  split at h
  · rfl
  · cases h
theorem isB_eq {o : Option (Option Value)} {n : String} (h : isB o n = true) : o = some (some (.builtin n)) := by
  unfold isB at h
  split at h
  · rw [eq_of_beq h]
  · cases h
theorem isT_eq {o : Option Value} {n : String} (h : isT o n = true) : o = some (.type n) := by
  unfold isT at h
  split at h
  · rw [eq_of_beq h]
  · cases h
theorem hasR_ns {K : PySem.W.Frag} {x : Str} (h : hasR (PySem.W.nsIn K mainGlobals x) = true) : PySem.W.nsIn K mainGlobals x = some (some (.ref (adr K x))) := by
  unfold adr
  unfold hasR at h
  split at h
  · rename_i a e
    rw [e]
  · cases h
theorem adr_of {K : PySem.W.Frag} {x : Str} {a : Addr} (h : PySem.W.nsIn K mainGlobals x = some (some (.ref a))) : adr K x = a := by
  unfold adr
  rw [h]
/-- the i-th class -/
def cl (K : PySem.W.Frag) (i : Nat) : Addr := adr K (en.getD i Str.empty)
abbrev nb : List Str := ["ValueError", "KeyError", "IndexError", "LookupError", "RuntimeError", "OverflowError", "ArithmeticError", "len", "int", "max", "min", "abs", "range", "repr", "isinstance"]
def namesB (K : PySem.W.Frag) : Bool := (en.all fun x => hasR (PySem.W.nsIn K mainGlobals x)) && nb.all fun x => noneR (PySem.W.nsIn K mainGlobals x)
def bareB (K : PySem.W.Frag) (i : Nat) : Bool := PySem.W.excIn K (cl K i) veMro "ValueError.__new__" && PySem.W.keepIn K (.ref (cl K i))
def excB (K : PySem.W.Frag) (i : Nat) : Bool :=
  isB (PySem.W.findIn K (.ref (cl K i)) "__getattribute__") "BaseException.__getattribute__" && noneR (PySem.W.findIn K (.ref (cl K i)) "__getattr__") && (PySem.W.subIn K (.ref (cl K i)) (.type "BaseException") == some true) && PySem.W.hasDictIn K (cl K i) &&
    isB (PySem.W.findIn K (.ref (cl K i)) "__class__") "object.__class__" && (PySem.W.mroIn K (cl K i) (.type "object") == some true)
def getB (K : PySem.W.Frag) : Bool := isB (PySem.W.specialIn K (.builtin "object.__class__") "__get__") "getset_descriptor.__get__" && (PySem.W.takesIn K (.builtin "object.__class__") == some true)
def kitB (K : PySem.W.Frag) (i : Nat) : Bool :=
  ((List.range 20).all fun j => PySem.W.kitOne K (.ref (cl K i)) (.ref (cl K j)) == some (if j < 13 then blT i j else bkT i (j - 13))) &&
    ((List.range 7).all fun j => PySem.W.kitOne K (.ref (cl K i)) (.type ((["ValueError", "KeyError", "IndexError", "LookupError", "RuntimeError", "OverflowError", "ArithmeticError"] : List String).getD j "")) == some (bkT i (j + 7)))
def exmB (K : PySem.W.Frag) (i j : Nat) (b : Bool) : Bool := PySem.W.exmOne K (.ref (cl K i)) (.ref (cl K j)) == some b
def iniB (K : PySem.W.Frag) (i : Nat) (f : Str) (newId : String) (bmB : List Value) : Bool :=
  PySem.W.excInitIn K (cl K i) bmB newId && PySem.W.excOver K (cl K i) bmB && noneR (PySem.W.takerIn K (cl K i) f) && isB (PySem.W.findIn K (.ref (cl K i)) "__setattr__") "object.__setattr__" && noneR (PySem.W.findIn K (.ref (cl K i)) f) &&
    PySem.W.keepIn K (.ref (cl K i)) && isT (PySem.W.typeIn K (.ref (cl K i))) "type"

section
variable {K : PySem.W.Frag} {h : Heap} {mg : Str → Option Value}
theorem errN_of (X : K.In h) (G : h.Ns mainGlobals mg) (q : namesB K = true) : ErrN mg (cl K) ∧ Blt mg := by
  unfold namesB at q
  simp only [Bool.and_eq_true, List.all_eq_true] at q
  obtain ⟨q1, q2⟩ := q
  have a : ∀ i (hi : i < 20), mg (en.getD i Str.empty) = some (.ref (cl K i)) := fun i hi => PySem.W.mg_of X G (hasR_ns (q1 _ (by
    rw [List.getD_eq_getElem?_getD, List.getElem?_eq_getElem (show i < en.length from hi)]
    exact List.getElem_mem _)))
  have b : ∀ x ∈ nb, mg x = none := fun x hx => PySem.W.mg_none_of X G (noneR_eq (q2 x hx))
  exact ⟨⟨a 0 (by decide), a 1 (by decide), a 2 (by decide), a 3 (by decide), a 4 (by decide), a 5 (by decide), a 6 (by decide), a 7 (by decide), a 8 (by decide), a 9 (by decide), a 10 (by decide), a 11 (by decide), a 12 (by decide), a 13 (by decide), a 14 (by decide), a 15 (by decide), a 16 (by decide), a 17 (by decide), a 18 (by decide), a 19 (by decide), b _ (by decide +kernel), b _ (by decide +kernel), b _ (by decide +kernel), b _ (by decide +kernel), b _ (by decide +kernel), b _ (by decide +kernel), b _ (by decide +kernel)⟩, ⟨b _ (by decide +kernel), b _ (by decide +kernel), b _ (by decide +kernel), b _ (by decide +kernel), b _ (by decide +kernel), b _ (by decide +kernel), b _ (by decide +kernel), b _ (by decide +kernel)⟩⟩

theorem bare_of (q : ((List.range 13).all fun i => bareB K i) = true) : Bare K (cl K) 13 := by
  simp only [List.all_eq_true, List.mem_range, bareB, Bool.and_eq_true] at q
  exact ⟨fun i hi => (q i hi).1, fun i hi => (q i hi).2⟩
theorem exc_of {i : Nat} (g : getB K = true) (q : excB K i = true) : ExcC K (cl K i) := by
  simp only [getB, excB, Bool.and_eq_true, beq_iff_eq] at g q
  obtain ⟨⟨⟨⟨⟨q1, q2⟩, q3⟩, q4⟩, q5⟩, q6⟩ := q
  exact ⟨isB_eq q1, noneR_eq q2, q3, q4, isB_eq q5, isB_eq g.1, g.2, q6⟩
theorem kit_of {i : Nat} (q : kitB K i = true) : LAns K (cl K) (cl K i) (blT i) ∧ KAns K (cl K) (cl K i) (bkT i) := by
  simp only [kitB, Bool.and_eq_true, List.all_eq_true, List.mem_range, beq_iff_eq] at q
  obtain ⟨q1, q2⟩ := q
  exact ⟨⟨q1 0 (by decide), q1 1 (by decide), q1 2 (by decide), q1 3 (by decide), q1 4 (by decide), q1 5 (by decide), q1 6 (by decide), q1 7 (by decide), q1 8 (by decide), q1 9 (by decide), q1 10 (by decide), q1 11 (by decide), q1 12 (by decide)⟩, ⟨q1 13 (by decide), q1 14 (by decide), q1 15 (by decide), q1 16 (by decide), q1 17 (by decide), q1 18 (by decide), q1 19 (by decide), q2 0 (by decide), q2 1 (by decide), q2 2 (by decide), q2 3 (by decide), q2 4 (by decide), q2 5 (by decide), q2 6 (by decide)⟩⟩
theorem ans_of (g : getB K = true) (q : ((List.range 20).all fun i => excB K i && kitB K i) = true) : Ans K (cl K) := by
  simp only [List.all_eq_true, List.mem_range, Bool.and_eq_true] at q
  exact ⟨fun i hi => exc_of g (q i hi).1, fun i hi => (kit_of (q i hi).2).1, fun i hi => (kit_of (q i hi).2).2⟩
theorem exm_is {i j : Nat} {b : Bool} (q : exmB K i j b = true) : PySem.W.exmOne K (.ref (cl K i)) (.ref (cl K j)) = some b := by
  simpa only [exmB, beq_iff_eq] using q
theorem ini_of {i : Nat} {x f qual : Str} {fI : Addr} {newId : String} {bmB : List Value} (gC : mg x = some (.ref (cl K i))) (e : ExcC K (cl K i)) (q : iniB K i f newId bmB = true)
    (iC : PySem.W.findIn K (.ref (cl K i)) "__init__" = some (some (.ref fI))) (tC : PySem.W.typeIn K (.ref fI) = some (.type "function"))
    (fn : ∃ (oc : Value) (od : Option Addr) (doc pm : Value) (an : Option Addr) (cdv ct : Value) (osl : Array (Option Value)) (p1 p2 q1 q2 q3 q4 : Pos),
      K.lookup fI = some ⟨oc, od, .func (PySem.W.fnOf "__init__" qual (iA f p1 p2) (iB f q1 q2 q3 q4) (iS f) .none .none doc pm an cdv ct), osl⟩ ∧ PySem.W.codeIn K cdv qual = true) : IniT K mg x f qual (cl K i) fI newId bmB := by
  simp only [iniB, Bool.and_eq_true] at q
  obtain ⟨⟨⟨⟨⟨⟨q1, q2⟩, q3⟩, q4⟩, q5⟩, q6⟩, q7⟩ := q
  exact ⟨gC, q1, q2, noneR_eq q3, isB_eq q4, e.hg, e.hk, noneR_eq q5, iC, tC, q6, e.hs, isT_eq q7, e.hd, fn⟩
end

theorem all_mk {l : PySem.W.OpenLaw} {w : World} {K : PySem.W.Frag} {h : Heap} {mg : Str → Option Value} {fa : Addr} {f0 f1 f2 f3 f4 f5 f6 f7 f8 f9 f10 g0 i0 g1 i1 g2 i2 g3 i3 g4 i4 g5 i5 : Addr} {od0 an0 od1 an1 od2 an2 od3 an3 od4 an4 od5 an5 od6 an6 od7 an7 od8 an8 od9 an9 od10 an10 od11 an11 od12 an12 od13 an13 od14 an14 od15 an15 od16 an16 : Option Addr} {sl0 sl1 sl2 sl3 sl4 sl5 sl6 sl7 sl8 sl9 sl10 sl11 sl12 sl13 sl14 sl15 sl16 : Array (Option Value)} {oc0 dc0 pm0 cd0 ct0 kV0 oc1 dc1 pm1 cd1 ct1 kV1 oc2 dc2 pm2 cd2 ct2 kV2 oc3 dc3 pm3 cd3 ct3 kV3 oc4 dc4 pm4 cd4 ct4 kV4 oc5 dc5 pm5 cd5 ct5 kV5 oc6 dc6 pm6 cd6 ct6 kV6 oc7 dc7 pm7 cd7 ct7 kV7 oc8 dc8 pm8 cd8 ct8 kV8 oc9 dc9 pm9 cd9 ct9 kV9 oc10 dc10 pm10 cd10 ct10 kV10 oc11 dc11 pm11 cd11 ct11 oc12 dc12 pm12 cd12 ct12 oc13 dc13 pm13 cd13 ct13 oc14 dc14 pm14 cd14 ct14 oc15 dc15 pm15 cd15 ct15 oc16 dc16 pm16 cd16 ct16 : Value} {p11_1 p11_2 p11_3 p11_4 p11_5 p11_6 p12_1 p12_2 p12_3 p12_4 p12_5 p12_6 p13_1 p13_2 p13_3 p13_4 p13_5 p13_6 p14_1 p14_2 p14_3 p14_4 p14_5 p14_6 p15_1 p15_2 p15_3 p15_4 p15_5 p15_6 p16_1 p16_2 p16_3 p16_4 p16_5 p16_6 : Pos} (X : K.In h) (G : h.Ns mainGlobals mg) (hfa : mg "law" = some (.ref fa))
    (a0 : PySem.W.nsIn K mainGlobals "_law_dice" = some (some (.ref f0))) (l0 : K.lookup f0 = some ⟨oc0, od0, .func (PySem.W.fnOf "_law_dice" "_law_dice" (defArgs sdice) (defBody sdice) (defScope sdice) .none kV0 dc0 pm0 an0 cd0 ct0), sl0⟩) (c0 : PySem.W.codeIn K cd0 "_law_dice" = true) (k0 : PySem.W.keepIn K (.ref f0) = true)
    (a1 : PySem.W.nsIn K mainGlobals "_law_roll" = some (some (.ref f1))) (l1 : K.lookup f1 = some ⟨oc1, od1, .func (PySem.W.fnOf "_law_roll" "_law_roll" (defArgs sroll) (defBody sroll) (defScope sroll) .none kV1 dc1 pm1 an1 cd1 ct1), sl1⟩) (c1 : PySem.W.codeIn K cd1 "_law_roll" = true) (k1 : PySem.W.keepIn K (.ref f1) = true)
    (a2 : PySem.W.nsIn K mainGlobals "_law_pick" = some (some (.ref f2))) (l2 : K.lookup f2 = some ⟨oc2, od2, .func (PySem.W.fnOf "_law_pick" "_law_pick" (defArgs spick) (defBody spick) (defScope spick) .none kV2 dc2 pm2 an2 cd2 ct2), sl2⟩) (c2 : PySem.W.codeIn K cd2 "_law_pick" = true) (k2 : PySem.W.keepIn K (.ref f2) = true)
    (a3 : PySem.W.nsIn K mainGlobals "_law_made_all" = some (some (.ref f3))) (l3 : K.lookup f3 = some ⟨oc3, od3, .func (PySem.W.fnOf "_law_made_all" "_law_made_all" (defArgs smadeall) (defBody smadeall) (defScope smadeall) .none kV3 dc3 pm3 an3 cd3 ct3), sl3⟩) (c3 : PySem.W.codeIn K cd3 "_law_made_all" = true) (k3 : PySem.W.keepIn K (.ref f3) = true)
    (a4 : PySem.W.nsIn K mainGlobals "_law_letters" = some (some (.ref f4))) (l4 : K.lookup f4 = some ⟨oc4, od4, .func (PySem.W.fnOf "_law_letters" "_law_letters" (defArgs sletters) (defBody sletters) (defScope sletters) .none kV4 dc4 pm4 an4 cd4 ct4), sl4⟩) (c4 : PySem.W.codeIn K cd4 "_law_letters" = true) (k4 : PySem.W.keepIn K (.ref f4) = true)
    (a5 : PySem.W.nsIn K mainGlobals "_law_kinds" = some (some (.ref f5))) (l5 : K.lookup f5 = some ⟨oc5, od5, .func (PySem.W.fnOf "_law_kinds" "_law_kinds" (defArgs skinds) (defBody skinds) (defScope skinds) .none kV5 dc5 pm5 an5 cd5 ct5), sl5⟩) (c5 : PySem.W.codeIn K cd5 "_law_kinds" = true) (k5 : PySem.W.keepIn K (.ref f5) = true)
    (a6 : PySem.W.nsIn K mainGlobals "_law_all" = some (some (.ref f6))) (l6 : K.lookup f6 = some ⟨oc6, od6, .func (PySem.W.fnOf "_law_all" "_law_all" (defArgs sall) (defBody sall) (defScope sall) .none kV6 dc6 pm6 an6 cd6 ct6), sl6⟩) (c6 : PySem.W.codeIn K cd6 "_law_all" = true) (k6 : PySem.W.keepIn K (.ref f6) = true)
    (a7 : PySem.W.nsIn K mainGlobals "_law_kept" = some (some (.ref f7))) (l7 : K.lookup f7 = some ⟨oc7, od7, .func (PySem.W.fnOf "_law_kept" "_law_kept" (defArgs skept) (defBody skept) (defScope skept) .none kV7 dc7 pm7 an7 cd7 ct7), sl7⟩) (c7 : PySem.W.codeIn K cd7 "_law_kept" = true) (k7 : PySem.W.keepIn K (.ref f7) = true)
    (a8 : PySem.W.nsIn K mainGlobals "_law_caught" = some (some (.ref f8))) (l8 : K.lookup f8 = some ⟨oc8, od8, .func (PySem.W.fnOf "_law_caught" "_law_caught" (defArgs scaught) (defBody scaught) (defScope scaught) .none kV8 dc8 pm8 an8 cd8 ct8), sl8⟩) (c8 : PySem.W.codeIn K cd8 "_law_caught" = true) (k8 : PySem.W.keepIn K (.ref f8) = true)
    (a9 : PySem.W.nsIn K mainGlobals "_law_right" = some (some (.ref f9))) (l9 : K.lookup f9 = some ⟨oc9, od9, .func (PySem.W.fnOf "_law_right" "_law_right" (defArgs sright) (defBody sright) (defScope sright) .none kV9 dc9 pm9 an9 cd9 ct9), sl9⟩) (c9 : PySem.W.codeIn K cd9 "_law_right" = true) (k9 : PySem.W.keepIn K (.ref f9) = true)
    (a10 : PySem.W.nsIn K mainGlobals "law" = some (some (.ref f10))) (l10 : K.lookup f10 = some ⟨oc10, od10, .func (PySem.W.fnOf "law" "law" (defArgs slaw) (defBody slaw) (defScope slaw) .none kV10 dc10 pm10 an10 cd10 ct10), sl10⟩) (c10 : PySem.W.codeIn K cd10 "law" = true) (k10 : PySem.W.keepIn K (.ref f10) = true)
    (x0 : PySem.W.nsIn K mainGlobals "ParseError" = some (some (.ref g0))) (j0 : PySem.W.findIn K (.ref g0) "__init__" = some (some (.ref i0))) (t0 : PySem.W.typeIn K (.ref i0) = some (.type "function")) (l11 : K.lookup i0 = some ⟨oc11, od11, .func (PySem.W.fnOf "__init__" "ParseError.__init__" (iA "number" p11_1 p11_2) (iB "number" p11_3 p11_4 p11_5 p11_6) (iS "number") .none .none dc11 pm11 an11 cd11 ct11), sl11⟩) (c11 : PySem.W.codeIn K cd11 "ParseError.__init__" = true)
    (x1 : PySem.W.nsIn K mainGlobals "UnknownName" = some (some (.ref g1))) (j1 : PySem.W.findIn K (.ref g1) "__init__" = some (some (.ref i1))) (t1 : PySem.W.typeIn K (.ref i1) = some (.type "function")) (l12 : K.lookup i1 = some ⟨oc12, od12, .func (PySem.W.fnOf "__init__" "UnknownName.__init__" (iA "name" p12_1 p12_2) (iB "name" p12_3 p12_4 p12_5 p12_6) (iS "name") .none .none dc12 pm12 an12 cd12 ct12), sl12⟩) (c12 : PySem.W.codeIn K cd12 "UnknownName.__init__" = true)
    (x2 : PySem.W.nsIn K mainGlobals "InvalidNumber" = some (some (.ref g2))) (j2 : PySem.W.findIn K (.ref g2) "__init__" = some (some (.ref i2))) (t2 : PySem.W.typeIn K (.ref i2) = some (.type "function")) (l13 : K.lookup i2 = some ⟨oc13, od13, .func (PySem.W.fnOf "__init__" "InvalidNumber.__init__" (iA "value" p13_1 p13_2) (iB "value" p13_3 p13_4 p13_5 p13_6) (iS "value") .none .none dc13 pm13 an13 cd13 ct13), sl13⟩) (c13 : PySem.W.codeIn K cd13 "InvalidNumber.__init__" = true)
    (x3 : PySem.W.nsIn K mainGlobals "NothingToUndo" = some (some (.ref g3))) (j3 : PySem.W.findIn K (.ref g3) "__init__" = some (some (.ref i3))) (t3 : PySem.W.typeIn K (.ref i3) = some (.type "function")) (l14 : K.lookup i3 = some ⟨oc14, od14, .func (PySem.W.fnOf "__init__" "NothingToUndo.__init__" (iA "wanted" p14_1 p14_2) (iB "wanted" p14_3 p14_4 p14_5 p14_6) (iS "wanted") .none .none dc14 pm14 an14 cd14 ct14), sl14⟩) (c14 : PySem.W.codeIn K cd14 "NothingToUndo.__init__" = true)
    (x4 : PySem.W.nsIn K mainGlobals "TooMany" = some (some (.ref g4))) (j4 : PySem.W.findIn K (.ref g4) "__init__" = some (some (.ref i4))) (t4 : PySem.W.typeIn K (.ref i4) = some (.type "function")) (l15 : K.lookup i4 = some ⟨oc15, od15, .func (PySem.W.fnOf "__init__" "TooMany.__init__" (iA "limit" p15_1 p15_2) (iB "limit" p15_3 p15_4 p15_5 p15_6) (iS "limit") .none .none dc15 pm15 an15 cd15 ct15), sl15⟩) (c15 : PySem.W.codeIn K cd15 "TooMany.__init__" = true)
    (x5 : PySem.W.nsIn K mainGlobals "Refused" = some (some (.ref g5))) (j5 : PySem.W.findIn K (.ref g5) "__init__" = some (some (.ref i5))) (t5 : PySem.W.typeIn K (.ref i5) = some (.type "function")) (l16 : K.lookup i5 = some ⟨oc16, od16, .func (PySem.W.fnOf "__init__" "Refused.__init__" (iA "pledge" p16_1 p16_2) (iB "pledge" p16_3 p16_4 p16_5 p16_6) (iS "pledge") .none .none dc16 pm16 an16 cd16 ct16), sl16⟩) (c16 : PySem.W.codeIn K cd16 "Refused.__init__" = true)
    (b0 : namesB K = true) (b1 : ((List.range 13).all fun i => bareB K i) = true) (b2 : getB K = true) (b3 : ((List.range 20).all fun i => excB K i && kitB K i) = true) (b4 : bareB K 19 = true) (b5 : iniB K 13 "number" "ValueError.__new__" veMro = true) (b6 : iniB K 14 "name" "LookupError.__new__" keyMro = true) (b7 : iniB K 15 "value" "IndexError.__new__" ieMro = true) (b8 : iniB K 16 "wanted" "RuntimeError.__new__" reMro = true) (b9 : iniB K 17 "limit" "OverflowError.__new__" oeMro = true) (b10 : iniB K 18 "pledge" "ArithmeticError.__new__" aeMro = true) (b11 : exmB K 11 19 true = true) (b12 : exmB K 18 19 false = true) (b13 : exmB K 18 18 true = true) (b14 : exmB K 17 19 false = true) (b15 : exmB K 17 18 false = true) (b16 : exmB K 17 17 true = true) (b17 : isT (PySem.W.typeIn K (.ref (cl K 11))) "type" = true) :
    ∃ fd : FuncData, (∀ (s : Shared) (u : Value), BindsTo s fd ⟨[u], []⟩ [("_law_script", u)]) ∧ ∀ base : Heap, K.In base → base.Ns mainGlobals mg → FnG l.prog w K mg base CX0 5 fa fd ["_law_script"] (spLaw K) := by
  have e := hfa.symm.trans (PySem.W.mg_of X G a10)
  cases e
  obtain ⟨T, B⟩ := errN_of X G b0
  have V := bare_of b1
  have A := ans_of b2 b3
  have F0 := fun_mk (st := sdice) l0 c0 k0
  have d0 := F0.binds (ps := ["_law_script", "_law_spot"]) fun _ _ _ _ _ _ us hl => match us, hl with | [_, _], _ => rfl
  have m0 := PySem.W.mg_of X G a0
  have F1 := fun_mk (st := sroll) l1 c1 k1
  have d1 := F1.binds (ps := ["_law_dice_here", "_law_total"]) fun _ _ _ _ _ _ us hl => match us, hl with | [_, _], _ => rfl
  have m1 := PySem.W.mg_of X G a1
  have F2 := fun_mk (st := spick) l2 c2 k2
  have d2 := F2.binds (ps := ["_law_dice_here", "_law_items"]) fun _ _ _ _ _ _ us hl => match us, hl with | [_, _], _ => rfl
  have m2 := PySem.W.mg_of X G a2
  have F3 := fun_mk (st := smadeall) l3 c3 k3
  have d3 := F3.binds (ps := []) fun _ _ _ _ _ _ us hl => match us, hl with | [], _ => rfl
  have m3 := PySem.W.mg_of X G a3
  have F4 := fun_mk (st := sletters) l4 c4 k4
  have d4 := F4.binds (ps := ["_law_error"]) fun _ _ _ _ _ _ us hl => match us, hl with | [_], _ => rfl
  have m4 := PySem.W.mg_of X G a4
  have F5 := fun_mk (st := skinds) l5 c5 k5
  have d5 := F5.binds (ps := ["_law_error"]) fun _ _ _ _ _ _ us hl => match us, hl with | [_], _ => rfl
  have m5 := PySem.W.mg_of X G a5
  have F6 := fun_mk (st := sall) l6 c6 k6
  have d6 := F6.binds (ps := ["_law_error"]) fun _ _ _ _ _ _ us hl => match us, hl with | [_], _ => rfl
  have m6 := PySem.W.mg_of X G a6
  have F7 := fun_mk (st := skept) l7 c7 k7
  have d7 := F7.binds (ps := ["_law_worth", "_law_index"]) fun _ _ _ _ _ _ us hl => match us, hl with | [_, _], _ => rfl
  have m7 := PySem.W.mg_of X G a7
  have F8 := fun_mk (st := scaught) l8 c8 k8
  have d8 := F8.binds (ps := ["_law_worth", "_law_way"]) fun _ _ _ _ _ _ us hl => match us, hl with | [_, _], _ => rfl
  have m8 := PySem.W.mg_of X G a8
  have F9 := fun_mk (st := sright) l9 c9 k9
  have d9 := F9.binds (ps := ["_law_worth", "_law_index"]) fun _ _ _ _ _ _ us hl => match us, hl with | [_, _], _ => rfl
  have m9 := PySem.W.mg_of X G a9
  have F10 := fun_mk (st := slaw) l10 c10 k10
  have d10 := F10.binds (ps := ["_law_script"]) fun _ _ _ _ _ _ us hl => match us, hl with | [_], _ => rfl
  have e0 : cl K 13 = g0 := adr_of x0
  have I0 := ini_of (i := 13) (x := "ParseError") (f := "number") (qual := "ParseError.__init__") T.gParseError (A.e 13 (by decide)) b5 (by rw [e0]; exact j0) t0 ⟨_, _, _, _, _, _, _, _, _, _, _, _, _, _, l11, c11⟩
  have e1 : cl K 14 = g1 := adr_of x1
  have I1 := ini_of (i := 14) (x := "UnknownName") (f := "name") (qual := "UnknownName.__init__") T.gUnknownName (A.e 14 (by decide)) b6 (by rw [e1]; exact j1) t1 ⟨_, _, _, _, _, _, _, _, _, _, _, _, _, _, l12, c12⟩
  have e2 : cl K 15 = g2 := adr_of x2
  have I2 := ini_of (i := 15) (x := "InvalidNumber") (f := "value") (qual := "InvalidNumber.__init__") T.gInvalidNumber (A.e 15 (by decide)) b7 (by rw [e2]; exact j2) t2 ⟨_, _, _, _, _, _, _, _, _, _, _, _, _, _, l13, c13⟩
  have e3 : cl K 16 = g3 := adr_of x3
  have I3 := ini_of (i := 16) (x := "NothingToUndo") (f := "wanted") (qual := "NothingToUndo.__init__") T.gNothingToUndo (A.e 16 (by decide)) b8 (by rw [e3]; exact j3) t3 ⟨_, _, _, _, _, _, _, _, _, _, _, _, _, _, l14, c14⟩
  have e4 : cl K 17 = g4 := adr_of x4
  have I4 := ini_of (i := 17) (x := "TooMany") (f := "limit") (qual := "TooMany.__init__") T.gTooMany (A.e 17 (by decide)) b9 (by rw [e4]; exact j4) t4 ⟨_, _, _, _, _, _, _, _, _, _, _, _, _, _, l15, c15⟩
  have e5 : cl K 18 = g5 := adr_of x5
  have I5 := ini_of (i := 18) (x := "Refused") (f := "pledge") (qual := "Refused.__init__") T.gRefused (A.e 18 (by decide)) b10 (by rw [e5]; exact j5) t5 ⟨_, _, _, _, _, _, _, _, _, _, _, _, _, _, l16, c16⟩
  have S : Six K mg (cl K) (fun n => [i0, i1, i2, i3, i4, i5].getD n 0) := ⟨I0, I1, I2, I3, I4, I5⟩
  simp only [bareB, Bool.and_eq_true] at b4
  refine ⟨PySem.W.fnOf "law" "law" (defArgs slaw) (defBody slaw) (defScope slaw) .none kV10 dc10 pm10 an10 cd10 ct10, fun s v => .of_eq rfl, fun base _ _ => ?_⟩
  have GD : FnOk l.prog w K mg base CX0 1 f0 _ _ _ := ok_dice F0 B
  have GP : FnOk l.prog w K mg base CX0 2 f2 _ _ _ := ok_pick F2 B F1 m1 d1
  have GM : FnOk l.prog w K mg base CX0 1 f3 _ _ _ := ok_made F3 T V
  have GA : FnOk l.prog w K mg base CX0 2 f6 _ _ _ := ok_all F6 F4 F5 m4 m5 d4 d5 B T
  have GK : FnOk l.prog w K mg base CX0 3 f7 _ _ _ := ok_kept F7 F6 GA m6 d6 A S
  have GC : FnG l.prog w K mg base CX0 3 f8 _ _ _ := ok_caught F8 F4 m4 d4 B T V A S (A.e 11 (by decide)).hs (isT_eq b17) (exm_is b11) (exm_is b12) (exm_is b13) (exm_is b14) (exm_is b15) (exm_is b16)
  have GR : FnG l.prog w K mg base CX0 4 f9 _ _ _ := ok_right F9 F3 GM m3 d3 F6 GA m6 d6 F7 GK m7 d7 F8 GC m8 d8 B T A b4.1 b4.2
  exact ok_law F10 F0 GD m0 d0 F2 GP m2 d2 F9 GR m9 d9 B
end VK
/-! K01Z -/
open PySem PySem.W PyProof.Rows
set_option maxRecDepth 100000 in
set_option maxHeartbeats 0 in
theorem PySem.Challenge.cw_rimtrails_k01_errors_and_what_they_keep_holds : PySem.Challenge.rw_rimtrails_k01_errors_and_what_they_keep.Holds := by
  w_on; o_law; k_head; (case hw => w_witness2)
  k_fill
  refine VK.walk_ofG (l := PySem.Challenge.rw_rimtrails_k01_errors_and_what_they_keep) (n := 63) (k := 5) (x := "_law_script") (sp := VK.spLaw) rfl (by decide) rfl ⟨rfl, by decide, by decide⟩ (fun w h Y => PySem.W.kIn_of Y) ?F (fun K H a ns hl hS => ⟨a, ns, rfl, hS, Nat.le_trans hl (by decide), fun _ => rfl⟩)
  case F =>
    intro w mg fa h KX G hmg
    refine' VK.all_mk KX G hmg ?a0 ?l0 ?c0 ?k0 ?a1 ?l1 ?c1 ?k1 ?a2 ?l2 ?c2 ?k2 ?a3 ?l3 ?c3 ?k3 ?a4 ?l4 ?c4 ?k4 ?a5 ?l5 ?c5 ?k5 ?a6 ?l6 ?c6 ?k6 ?a7 ?l7 ?c7 ?k7 ?a8 ?l8 ?c8 ?k8 ?a9 ?l9 ?c9 ?k9 ?a10 ?l10 ?c10 ?k10 ?x0 ?j0 ?t0 ?l11 ?c11 ?x1 ?j1 ?t1 ?l12 ?c12 ?x2 ?j2 ?t2 ?l13 ?c13 ?x3 ?j3 ?t3 ?l14 ?c14 ?x4 ?j4 ?t4 ?l15 ?c15 ?x5 ?j5 ?t5 ?l16 ?c16 ?b0 ?b1 ?b2 ?b3 ?b4 ?b5 ?b6 ?b7 ?b8 ?b9 ?b10 ?b11 ?b12 ?b13 ?b14 ?b15 ?b16 ?b17
    (case a0 => k_is); (case l0 => k_is); (case c0 => k_is); (case k0 => k_is); (case a1 => k_is)
    (case l1 => k_is); (case c1 => k_is); (case k1 => k_is); (case a2 => k_is); (case l2 => k_is)
    (case c2 => k_is); (case k2 => k_is); (case a3 => k_is); (case l3 => k_is); (case c3 => k_is)
    (case k3 => k_is); (case a4 => k_is); (case l4 => k_is); (case c4 => k_is); (case k4 => k_is)
    (case a5 => k_is); (case l5 => k_is); (case c5 => k_is); (case k5 => k_is); (case a6 => k_is)
    (case l6 => k_is); (case c6 => k_is); (case k6 => k_is); (case a7 => k_is); (case l7 => k_is)
    (case c7 => k_is); (case k7 => k_is); (case a8 => k_is); (case l8 => k_is); (case c8 => k_is)
    (case k8 => k_is); (case a9 => k_is); (case l9 => k_is); (case c9 => k_is); (case k9 => k_is)
    (case a10 => k_is); (case l10 => k_is); (case c10 => k_is); (case k10 => k_is); (case x0 => k_is)
    (case j0 => k_is); (case t0 => k_is); (case l11 => k_is); (case c11 => k_is); (case x1 => k_is)
    (case j1 => k_is); (case t1 => k_is); (case l12 => k_is); (case c12 => k_is); (case x2 => k_is)
    (case j2 => k_is); (case t2 => k_is); (case l13 => k_is); (case c13 => k_is); (case x3 => k_is)
    (case j3 => k_is); (case t3 => k_is); (case l14 => k_is); (case c14 => k_is); (case x4 => k_is)
    (case j4 => k_is); (case t4 => k_is); (case l15 => k_is); (case c15 => k_is); (case x5 => k_is)
    (case j5 => k_is); (case t5 => k_is); (case l16 => k_is); (case c16 => k_is)
    (case b0 => kernel_rfl)
    (case b1 => kernel_rfl)
    (case b2 => kernel_rfl)
    (case b3 => kernel_rfl)
    (case b4 => kernel_rfl)
    (case b5 => kernel_rfl)
    (case b6 => kernel_rfl)
    (case b7 => kernel_rfl)
    (case b8 => kernel_rfl)
    (case b9 => kernel_rfl)
    (case b10 => kernel_rfl)
    (case b11 => kernel_rfl)
    (case b12 => kernel_rfl)
    (case b13 => kernel_rfl)
    (case b14 => kernel_rfl)
    (case b15 => kernel_rfl)
    (case b16 => kernel_rfl)
    (case b17 => kernel_rfl)
