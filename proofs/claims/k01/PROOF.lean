import PyProof.Rows.All
import Wide.All
import OpenK.AllK
import Wide.FinOn
import HandS.ForMost
import HandS.Wide
import HandS.IsInst
import HandS.IntHex
import HandS.SetFor
import HandS.TupLe
import KE.KIntText
import PySem.Challenge.RW_leanfigures_k01_rows_looked_at
set_option Elab.async false
set_option linter.all false
set_option maxRecDepth 100000
set_option maxHeartbeats 4000000
/-! int(text, 2), the text of any length. -/
namespace XB
open PySem PySem.NumText PySem.Calls L2

/-- binary signs alone -/
def Bits (cs : List Nat) : Prop := ∀ c ∈ cs, c = 48 ∨ c = 49
/-- what they are worth -/
def bitsVal (cs : List Nat) : Nat := cs.foldl (fun a c => 2 * a + (c - 48)) 0

theorem Bits.digits {cs : List Nat} (h : Bits cs) : AllDigits cs := fun c hc => by
  rcases h c hc with e | e <;> subst e <;> exact ⟨by decide, by decide⟩
theorem Bits.rev {cs : List Nat} (h : Bits cs) : Bits cs.reverse := fun c hc => h c (List.mem_reverse.mp hc)
theorem step2 {ds : Array Nat} {b : Bool} {c : Nat} (h : c = 48 ∨ c = 49) : PySem.NumText.step 2 (ds, b) c = some (ds.push (c - 48), true) := by
  rcases h with e | e <;> subst e <;> rfl
theorem fold2 : ∀ (cs : List Nat) (ds : Array Nat), Bits cs → List.foldlM (PySem.NumText.step 2) (ds, true) cs = some (List.foldl (fun acc c => acc.push (c - 48)) ds cs, true)
  | [], _, _ => rfl
  | c :: cs, ds, h => by
    rw [List.foldlM_cons, step2 (h c List.mem_cons_self)]
    exact fold2 cs (ds.push (c - 48)) fun d hd => h d (List.mem_cons_of_mem _ hd)
theorem digits2 {cs : List Nat} (h : Bits cs) (hne : cs ≠ []) : digits? 2 cs = some (List.foldl (fun acc c => acc.push (c - 48)) #[] cs) := by
  match cs, hne with
  | c :: r, _ =>
    unfold digits?
    rw [List.foldlM_cons, step2 (h c List.mem_cons_self)]
    have e := fold2 r ((#[] : Array Nat).push (c - 48)) fun d hd => h d (List.mem_cons_of_mem _ hd)
    show (List.foldlM (PySem.NumText.step 2) ((#[] : Array Nat).push (c - 48), true) r).bind _ = _
    rw [e]
    rfl
theorem pushed2 : ∀ (cs : List Nat) (ds : Array Nat), (List.foldl (fun acc c => acc.push (c - 48)) ds cs).foldl (fun acc d => acc * 2 + d) 0 =
    cs.foldl (fun a c => 2 * a + (c - 48)) (ds.foldl (fun acc d => acc * 2 + d) 0)
  | [], _ => rfl
  | c :: cs, ds => by
    rw [List.foldl_cons, pushed2 cs (ds.push (c - 48)), List.foldl_cons]
    congr 1
    simp [Nat.mul_comm]
theorem based2 {cs : List Nat} (h : Bits cs) : based 2 cs = (2, false, cs) := by
  match cs, h with
  | [], _ => rfl
  | [a], h =>
    rcases h a List.mem_cons_self with e | e <;> subst e <;> rfl
  | a :: c :: r, h =>
    have ha := h a List.mem_cons_self
    have hc := h c (List.mem_cons_of_mem _ List.mem_cons_self)
    rcases ha with e | e <;> rcases hc with e2 | e2 <;> subst e <;> subst e2 <;> rfl
theorem sign2 {cs : List Nat} (h : Bits cs) : sign cs = (false, cs) := by
  match cs, h with
  | [], _ => rfl
  | c :: r, h =>
    have := h c List.mem_cons_self
    exact sign_of (by omega) (by omega)
theorem read2 (limit : Nat) {cs : List Nat} (h : Bits cs) (hne : cs ≠ []) : (int_private% "readNumeral") limit 2 cs = (int_private% "Numeral.value") ((bitsVal cs : Nat) : Int) := by
  refine (readNumeral_eq limit 2 cs).trans ?_
  rw [dropWhile_digits h.digits, sign2 h]
  have e1 := based2 h
  show judge limit false (based 2 cs).1 (based 2 cs).2.1 (digits? (based 2 cs).1 (((based 2 cs).2.2.reverse.dropWhile blank).reverse)) = _
  rw [e1]
  show judge limit false 2 false (digits? 2 ((cs.reverse.dropWhile blank).reverse)) = _
  rw [dropWhile_digits h.rev.digits, List.reverse_reverse, digits2 h hne]
  have e2 := pushed2 cs #[]
  have z : (#[] : Array Nat).foldl (fun acc d => acc * 2 + d) 0 = 0 := by simp
  rw [z] at e2
  unfold judge
  dsimp only
  rw [e2]
  rfl
theorem seen2 {x : Str} (h : Bits x.cps.toList) : numTextOf x = x.cps.toList ∧ numSeenOf x = x.cps.toList :=
  numText_signs fun c hc => .inr (by have := h c hc; omega)

open PyProof.Rows in
theorem wp_maxDigits {M : Model} {A : Around} {E : Value → Shared → Prop} {s : Shared} {Q : Nat → Shared → Prop} (hn : s.heap.NoDigits) (h : Q 4300 s) : wpAny M A Builtin.intMaxStrDigits Q E s := by
  obtain ⟨mc, hns, hz⟩ := hn
  unfold Builtin.intMaxStrDigits
  refine wpAny_bind (wpAny_nsGet hns ?_)
  rw [hz]
  exact wpAny_pure h

theorem wp_text2 {M : Model} {A : Around} {E : Value → Shared → Prop} {s : Shared} {Q : Value → Shared → Prop} {v : Value} {text : List Nat} {n : Int}
    (hn : s.heap.NoDigits) (hr : ∀ limit, (int_private% "readNumeral") limit 2 (text.takeWhile (· != 0)) = (int_private% "Numeral.value") n)
    (ha : ((text.takeWhile (· != 0)).length == text.length) = true) (h : Q (.int n s.toks) { s with toks := s.toks + 1 }) :
    wpAny M A ((int_private% "intFromText") v text 2) Q E s := by
  obtain ⟨hp, g, d, tk, os⟩ := s
  by_cases hs : (text.takeWhile (· != 0)).length ≤ 640
  · exact Hx.wp_textB hs (hr 0) ha h
  · repeat (any_goals (first
      | assumption
      | (with_reducible refine wpAny_ite_false (decide_eq_false hs) ?_)
      | (with_reducible refine wpAny_ite_true (decide_eq_true ha) ?_)
      | ((with_reducible show wpAny _ _ Builtin.intMaxStrDigits _ _ _); refine wp_maxDigits hn ?_)
      | wp_step))
    all_goals (try rw [hr])
    all_goals (try dsimp only)
    repeat (any_goals (first
      | assumption
      | (with_reducible refine wpAny_ite_false (decide_eq_false hs) ?_)
      | (with_reducible refine wpAny_ite_true (decide_eq_true ha) ?_)
      | wp_step))

structure Held (p : Prop) : Prop where
  out : p
/-- what int(text, 2) wants of the state, and gives -/
def spec2 (n : Int) : Spec := fun _ R s => s.heap.NoDigits ∧ R (.ok (.ret (.int n s.toks))) { s with toks := s.toks + 1 }
set_option maxHeartbeats 4000000 in
theorem meets2 {x : PySem.Str} {u t : Tok} (h : Bits x.cps.toList) (hne : x.cps.toList ≠ []) :
    Meets (Builtin.«int.__new__» ⟨[.type "int", .str x u, .int 2 t], []⟩) (spec2 ((bitsVal x.cps.toList : Nat) : Int)) :=
  Meets.of_wp fun prog w A R s hQ => by
    obtain ⟨hp, g, d, tk, os⟩ := s
    have k1 := F.conv_sub_int
    have k2 := F.madeHere_int
    have k3 : typeOf (.str x u) = pure (.type "str") := rfl
    obtain ⟨e1, e2⟩ := seen2 h
    have hr : ∀ limit, (int_private% "readNumeral") limit 2 (numSeenOf x) = (int_private% "Numeral.value") ((bitsVal x.cps.toList : Nat) : Int) := by
      intro limit
      rw [e2]
      exact read2 limit h hne
    have ha : ((numSeenOf x).length == (numTextOf x).length) = true := by
      rw [e1, e2]
      exact beq_self_eq_true _
    have hk := Held.mk (And.intro hr (And.intro ha hQ))
    clear hr ha e1 e2 hne h hQ
    repeat (any_goals (first
      | assumption
      | ((with_reducible show wpAny _ _ ((int_private% "intFromText") _ _ _) _ _ _); refine wp_text2 hk.out.2.2.1 hk.out.1 hk.out.2.1 ?_)
      | wp_step))
    all_goals first | exact ⟨_, rfl, hk.out.2.2.2⟩ | skip
theorem call2 {prog : Program} {w : World} {A : Around} {E : Value → Shared → Prop} {s : Shared} {Q : Value → Shared → Prop} {x : PySem.Str} {u t : Tok} (hn : s.heap.NoDigits) (h : Bits x.cps.toList) (hne : x.cps.toList ≠ [])
    (hQ : Q (.int ((bitsVal x.cps.toList : Nat) : Int) s.toks) { s with toks := s.toks + 1 }) : wpAny (model prog w) A (call (.type "int") [.str x u, .int 2 t]) Q E s :=
  callType_new F.called_int F.newNe_int (Hx.typeCall_int_2 _ _) (Hx.newCall_int_2 _ _) (fun obj => F.initArgs_range_2 obj _ _) F.entry_int_new (meets2 h hne) ⟨hn, rfl, hQ⟩

/-- the facts of the written part: no limit on digits was set -/
theorem noDigits {K : PySem.W.Frag} {h : Heap} (X : K.In h) {mc : Str → Option Value} (G : h.Ns cStatics mc) (e : PySem.W.nsIn K cStatics "sys.int_max_str_digits" = some none) : h.NoDigits := by
  refine ⟨mc, G, ?_⟩
  obtain ⟨o, es, ep, ho, hd, _, hf⟩ := G
  unfold PySem.W.nsIn at e
  split at e
  · rename_i c d es' n' sl q
    have z := X _ _ q
    rw [ho] at z
    cases z
    cases hd
    split at e
    · exact nomatch e
    · rename_i hnone
      refine (hf "sys.int_max_str_digits").symm.trans ?_
      unfold nsFind
      unfold findBy
      rw [← Array.find?_toList, hnone]
      rfl
  · cases e
end XB
namespace L2
open PySem PySem.Spec PyProof.Rows
/-- int(text, 2), the text of binary signs -/
def rInt2 : List V → Hp → VK → Prop := fun xs H Q => ∃ x : Str, xs = [.str x, .int 2] ∧ XB.Bits x.cps.toList ∧ x.cps.toList ≠ [] ∧ Q (.int ((XB.bitsVal x.cps.toList : Nat) : Int)) H
theorem call_int2 {X : Cx} (e : PySem.W.nsIn X.K cStatics "sys.int_max_str_digits" = some none) : CallR X (.type "int") rInt2 := by
  intro pins s σ H xs us Q I r h
  obtain ⟨x, rfl, h1, h2, q⟩ := h
  obtain ⟨u, w', rfl, r1, r2⟩ := vals2 r
  obtain ⟨t1, rfl⟩ := r1
  obtain ⟨t2, rfl⟩ := r2
  obtain ⟨mc, G, _⟩ := I.nolimit
  exact XB.call2 (XB.noDigits I.kIn G e) h1 h2 ⟨.int _, H, I.tok _, ⟨_, rfl⟩, q⟩
end L2

namespace FG
open PySem PySem.Spec PyProof.Rows L2
/-! ### kinds of values -/
def intV : V → Bool
  | .int _ => true
  | _ => false
def figV : V → Bool
  | .int i => decide (-1 ≤ i) && decide (i ≤ 1)
  | _ => false
/-- what isinstance tells of a value: whether it is an int, a bool, a list -/
structure Kind (K : PySem.W.Frag) (H : Hp) (x : V) (i b l : Bool) : Prop where
  ex : ∃ t, TyX K H x t ∧ PySem.W.kitOne K t (.type "int") = some i ∧ PySem.W.kitOne K t (.type "bool") = some b ∧ PySem.W.kitOne K t (.type "list") = some l
section
variable {K : PySem.W.Frag} {H H' : Hp}
theorem same_upd {p : Addr} {o : HO} (h : H p = none) : Same H (upd H p o) := fun b x e => by
  have ne : b ≠ p := ne_of_none e h
  rw [upd_ne ne]
  exact e
theorem Same.tyx {x : V} {t : Value} (s : Same H H') (h : TyX K H x t) : TyX K H' x t := by
  cases h with
  | base b =>
    cases b with
    | non => exact .base .non
    | bl y => exact .base (.bl y)
    | int y => exact .base (.int y)
    | str y => exact .base (.str y)
    | flt y => exact .base (.flt y)
    | lst e => exact .base (.lst (s _ _ e))
    | frz e => exact .base (.frz (s _ _ e))
    | tup e => exact .base (.tup (s _ _ e))
    | dK e => exact .base (.dK (s _ _ e))
    | dT e => exact .base (.dT (s _ _ e))
    | ins e a b c d f => exact .base (.ins (s _ _ e) a b c d f)
  | byt y => exact .byt y
  | set e => exact .set (s _ _ e)
  | kList e c => exact .kList e c
  | kTuple e c => exact .kTuple e c
  | kDict e c => exact .kDict e c
  | fTuple e => exact .fTuple (s _ _ e)
  | fDict e => exact .fDict (s _ _ e)
theorem Kind.mono {x : V} {i b l : Bool} (k : Kind K H x i b l) (s : Same H H') : Kind K H' x i b l := by
  obtain ⟨t, h1, h2⟩ := k.ex
  exact ⟨⟨t, Same.tyx s h1, h2⟩⟩
theorem kind_of {x : V} {n : String} {i b l : Bool} (h : TyX K H x (.type n)) (h1 : kitB n "int" = some i) (h2 : kitB n "bool" = some b) (h3 : kitB n "list" = some l) : Kind K H x i b l :=
  ⟨⟨_, h, kit_ty h1, kit_ty h2, kit_ty h3⟩⟩
theorem kind_int (i : Int) : Kind K H (.int i) true false false := kind_of (.base (.int i)) (by decide +kernel) (by decide +kernel) (by decide +kernel)
theorem kind_bl (b : Bool) : Kind K H (.bl b) true true false := kind_of (.base (.bl b)) (by decide +kernel) (by decide +kernel) (by decide +kernel)
theorem kind_non : Kind K H .non false false false := kind_of (.base .non) (by decide +kernel) (by decide +kernel) (by decide +kernel)
theorem kind_str (x : Str) : Kind K H (.str x) false false false := kind_of (.base (.str x)) (by decide +kernel) (by decide +kernel) (by decide +kernel)
theorem kind_list {a : Addr} {xs : List V} (h : SqL K H a xs) : Kind K H (.ref a) false false true := by
  have z : TyX K H (.ref a) (.type "list") := by
    rcases h with h | ⟨o, its, n, hk, hc, _⟩
    · rcases h with h | ⟨o, h⟩
      · exact .base (.lst h)
      · exact .base (.frz h)
    · exact .kList hk hc
  exact kind_of z (by decide +kernel) (by decide +kernel) (by decide +kernel)
theorem kind_tup {a : Addr} {xs : List V} (h : H a = some (.tup xs)) : Kind K H (.ref a) false false false := kind_of (.base (.tup h)) (by decide +kernel) (by decide +kernel) (by decide +kernel)
theorem kind_dict {a : Addr} {kvs : List (Key × V)} (h : H a = some (.dK kvs)) : Kind K H (.ref a) false false false := kind_of (.base (.dK h)) (by decide +kernel) (by decide +kernel) (by decide +kernel)
/-- an int that is no bool: just the whole numbers -/
def Plain (K : PySem.W.Frag) (H : Hp) (x : V) : Prop := ∃ i b l, Kind K H x i b l ∧ (i && !b) = intV x
theorem Plain.mono {x : V} (h : Plain K H x) (s : Same H H') : Plain K H' x := let ⟨i, b, l, k, e⟩ := h; ⟨i, b, l, k.mono s, e⟩
theorem plain_int (i : Int) : Plain K H (.int i) := ⟨_, _, _, kind_int i, rfl⟩
theorem atI_getLast (xs : List V) (h : xs ≠ []) : atI xs (-1) = some (xs.getLast h) := by
  have e := atI_last xs.dropLast (xs.getLast h)
  rw [List.dropLast_concat_getLast] at e
  exact e
end

/-! ### rows of figures -/
/-- a row: figures alone, the last one other than 0 -/
def Row (ns : List Int) : Prop := (∀ n ∈ ns, -1 ≤ n ∧ n ≤ 1) ∧ ns.getLast? ≠ some 0
/-- what a row is worth -/
def val : List Int → Int
  | [] => 0
  | n :: r => n + 2 * val r
/-- the worth of a row's figures f alone, told by ones -/
def mk (f : Int) : List Int → Nat
  | [] => 0
  | n :: r => (if n = f then 1 else 0) + 2 * mk f r
theorem mk_val : ∀ ns : List Int, (∀ n ∈ ns, -1 ≤ n ∧ n ≤ 1) → ((mk 1 ns : Nat) : Int) - ((mk (-1) ns : Nat) : Int) = val ns
  | [], _ => rfl
  | n :: r, h => by
    have ih := mk_val r fun m hm => h m (List.mem_cons_of_mem _ hm)
    have hn := h n List.mem_cons_self
    show (((if n = 1 then 1 else 0) + 2 * mk 1 r : Nat) : Int) - (((if n = -1 then 1 else 0) + 2 * mk (-1) r : Nat) : Int) = n + 2 * val r
    have c : n = -1 ∨ n = 0 ∨ n = 1 := by omega
    rcases c with e | e | e <;> subst e <;> simp <;> omega
/-- the sign of a figure, asked for f -/
def sg (f n : Int) : Nat := if n = f then 49 else 48
theorem sg_bits (f : Int) (ns : List Int) : XB.Bits (48 :: ns.map (sg f)) := fun c hc => by
  rcases List.mem_cons.mp hc with e | e
  · exact .inl e
  · obtain ⟨n, _, e⟩ := List.mem_map.mp e
    subst e
    unfold sg
    split
    · exact .inr rfl
    · exact .inl rfl
theorem sg_val (f : Int) (ns : List Int) : XB.bitsVal (48 :: (ns.reverse.map (sg f))) = mk f ns := by
  unfold XB.bitsVal
  rw [List.foldl_cons, List.map_reverse, List.foldl_reverse]
  induction ns with
  | nil => rfl
  | cons n r ih =>
    rw [List.map_cons, List.foldr_cons, ih]
    show 2 * mk f r + (sg f n - 48) = (if n = f then 1 else 0) + 2 * mk f r
    unfold sg
    split <;> omega
/-! ### texts of signs -/
def sign1 (c : Nat) : Str := ⟨#[c]⟩
theorem joinL_nil : ∀ ls : List (List Nat), TL.joinL [] ls = ls.flatten
  | [] => rfl
  | [p] => by simp [TL.joinL]
  | p :: q :: r => by
    have ih := joinL_nil (q :: r)
    show p ++ ([] ++ TL.joinL [] (q :: r)) = (p :: q :: r).flatten
    rw [ih]
    simp
theorem joined_signs (e : Str) (he : e.cps.toList = []) (cs : List Nat) : (Txt.join e (cs.map sign1)).cps.toList = cs := by
  have h := TL.tl_join e (cs.map sign1)
  rw [← TL.join_eq] at h
  have h0 : TL.tl e = [] := he
  rw [h0, joinL_nil, List.map_map] at h
  refine Eq.trans h ?_
  induction cs with
  | nil => rfl
  | cons c r ih =>
    have h' := TL.tl_join e (r.map sign1)
    rw [← TL.join_eq, h0, joinL_nil, List.map_map] at h'
    rw [List.map_cons, List.flatten_cons, ih h']
    rfl
theorem app_list (a b : Str) : (a ++ b).cps.toList = a.cps.toList ++ b.cps.toList := by
  show (a.cps ++ b.cps).toList = _
  simp

/-! ### lists of whole numbers compared -/
def dI (ns : List Int) : PyData := .list (ns.map PyData.int)
theorem dI_depthAll : ∀ ns : List Int, PyData.depthAll (ns.map PyData.int) ≤ 1
  | [] => by simp [PyData.depthAll]
  | n :: r => by
    have ih := dI_depthAll r
    simp only [List.map_cons, PyData.depthAll, PyData.depth]
    omega
theorem dI_lay : ∀ ns : List Int, PyData.canLayAll0 (ns.map PyData.int) = true
  | [] => by simp [PyData.canLayAll0]
  | n :: r => by
    have ih := dI_lay r
    simp [PyData.canLayAll0, PyData.canLay0, ih]
theorem dI_shaped (ns : List Int) : SeqAt.shaped (dI ns) = true := by
  have h1 := dI_depthAll ns
  have h2 : PyData.depth (dI ns) ≤ 64 := by
    simp only [dI, PyData.depth]
    omega
  unfold SeqAt.shaped
  rw [Bool.and_eq_true]
  exact ⟨by simp only [dI, PyData.canLay0]; exact dI_lay ns, decide_eq_true h2⟩
theorem dI_eqvAll : ∀ ns ms : List Int, PyData.eqvAll (ns.map PyData.int) (ms.map PyData.int) = decide (ns = ms)
  | [], [] => by simp [PyData.eqvAll]
  | [], _ :: _ => by simp [PyData.eqvAll]
  | _ :: _, [] => by simp [PyData.eqvAll]
  | n :: r, m :: t => by
    have ih := dI_eqvAll r t
    simp only [List.map_cons, PyData.eqvAll, PyData.eqv, ih]
    by_cases h1 : n = m
    · by_cases h2 : r = t
      · simp [h1, h2]
      · simp [h1, h2]
    · simp [h1]
theorem dI_eqv (ns ms : List Int) : PyData.eqv (dI ns) (dI ms) = decide (ns = ms) := by
  show PyData.eqvAll _ _ = _
  exact dI_eqvAll ns ms
theorem dpAll {K : PySem.W.Frag} {H : Hp} : ∀ ns : List Int, DpAll K H (ns.map V.int) (ns.map PyData.int)
  | [] => .nil
  | n :: r => .cons (.int n) (dpAll r)
theorem dp_ints {K : PySem.W.Frag} {H : Hp} {a : Addr} {ns : List Int} (h : SqL K H a (ns.map V.int)) : Dp K H (.ref a) (dI ns) := .lst h (dpAll ns)
/-- the item behind the last but none: xs[-1:] -/
theorem cutLast (ns : List Int) : cutV (ns.map V.int) (some (-1)) none = (ns.drop (ns.length - 1)).map V.int := by
  have e : HT.sIx (ns.map V.int).length 0 (some (-1)) = ns.length - 1 := by
    show (if (-1 : Int) < 0 then ((-1 : Int) + ((ns.map V.int).length : Int)).toNat else min (-1 : Int).toNat (ns.map V.int).length) = _
    rw [if_pos (by decide), List.length_map]
    show ((-1 : Int) + (ns.length : Int)).toNat = ns.length - 1
    omega
  unfold cutV
  rw [e, HT.sIx_none, List.map_drop]
  apply List.take_of_length_le
  rw [List.length_drop, List.length_map]
  omega
theorem last_zero {ns : List Int} (h : ns.getLast? ≠ some 0) : ns.drop (ns.length - 1) ≠ [0] := fun e => by
  apply h
  rw [List.getLast?_eq_getElem?]
  have z := congrArg (fun l => l[0]?) e
  simp only [List.getElem?_drop] at z
  simpa using z
theorem val_append : ∀ (a b : List Int), val (a ++ b) = val a + 2 ^ a.length * val b
  | [], b => by simp [val]
  | n :: r, b => by
    have ih := val_append r b
    show n + 2 * val (r ++ b) = n + 2 * val r + 2 ^ (r.length + 1) * val b
    rw [ih, Int.pow_succ, Int.mul_add]
    have : (2 : Int) ^ r.length * 2 * val b = 2 * (2 ^ r.length * val b) := by
      rw [Int.mul_comm ((2 : Int) ^ r.length) 2, Int.mul_assoc]
    omega
theorem val_take {ns : List Int} {i : Nat} (h : i < ns.length) : val (ns.take (i + 1)) = val (ns.take i) + ns[i] * 2 ^ i := by
  rw [List.take_add_one, List.getElem?_eq_getElem h, val_append]
  have e : (ns.take i).length = i := by
    rw [List.length_take]
    omega
  rw [e]
  show _ + 2 ^ i * (ns[i] + 2 * 0) = _
  rw [Int.mul_zero, Int.add_zero, Int.mul_comm]

/-- a loop over enumerate of a list: Inv by the turn -/
theorem for_enum {K : PySem.W.Frag} {a : Addr} {xs : List V} {g : TG} {tb : TS} {D : Ends} {σ : L2.St} {H : Hp} (Iv : Nat → L2.St → Hp → Prop) (start : Iv 0 σ H) (still : ∀ i σ H, Iv i σ H → SqL K H a xs)
    (turn : ∀ (i : Nat) (x : V) (t : Addr) (σ : L2.St) (H : Hp), xs[i]? = some x → Iv i σ H → H t = none → g (.ref t) σ (upd H t (.tup [.int (i : Nat), x])) fun σ2 H2 => tb { D with nx := Iv (i + 1), ct := Iv (i + 1), bk := D.nx } σ2 H2)
    (stop : ∀ σ H, Iv xs.length σ H → D.nx σ H) :
    ∃ W : Nat → Nat → L2.St → Hp → Prop, (∃ m, W 0 m σ H) ∧ ∀ i m σ H, W i m σ H →
      ((Ite K a).stop i H ∧ D.nx σ H) ∨ ((Ite K a).go i H ∧ ∃ N : L2.St → Hp → Prop, (∀ σ' H', N σ' H' → ∃ m', m' < m ∧ W (i + 1) m' σ' H') ∧ ∀ v H', (Ite K a).yld i H v H' → g v σ H' fun σ2 H2 => tb { D with nx := N, ct := N, bk := D.nx } σ2 H2) := by
  refine ⟨fun i m σ H => i + m = xs.length ∧ Iv i σ H, ⟨xs.length, Nat.zero_add _, start⟩, fun i m σ H hW => ?_⟩
  obtain ⟨em, iv⟩ := hW
  have sq := still i σ H iv
  by_cases hi : i < xs.length
  · refine .inr ⟨⟨xs, xs[i], sq, List.getElem?_eq_getElem hi⟩, Iv (i + 1), fun σ' H' h' => ⟨m - 1, by omega, by omega, h'⟩, fun v H' hy => ?_⟩
    obtain ⟨t, x, rfl, nt, rfl, fx⟩ := hy
    exact turn i x t σ H (fx _ sq) iv nt
  · have e : i = xs.length := by omega
    subst e
    exact .inl ⟨⟨xs, sq, Nat.le_refl _⟩, stop σ H iv⟩
theorem small_ok {n : Nat} (h : n ≤ 64) : n ≤ sizeLine := Nat.le_trans h (by decide)
/-- of each two neighbours one is 0 -/
def gaps : List Int → Bool
  | x :: y :: r => (decide (x = 0) || decide (y = 0)) && gaps (y :: r)
  | _ => true
/-- a row is handed in at a -/
def RowAt (K : PySem.W.Frag) (H : Hp) (a : Addr) (ns : List Int) : Prop := SqL K H a (ns.map V.int) ∧ Row ns ∧ ns.length ≤ 4000000
theorem RowAt.mono {K : PySem.W.Frag} {H H' : Hp} {a : Addr} {ns : List Int} (r : RowAt K H a ns) (s : Same H H') : RowAt K H' a ns := ⟨s.seq r.1, r.2⟩
end FG

namespace K01
open PySem PySem.Spec PyProof.Rows L2 FG 
/-! ### the text -/
def topS (i : Nat) : Stmt := PySem.Challenge.pw_leanfigures_k01_rows_looked_at.main.body.getD i (.Pass ⟨0, 0, 0, 0⟩)
abbrev t_is_whole : Stmt := topS 4
abbrev p_is_whole : List Str := ["thing"]
theorem sc_is_whole : FnScope ["thing"] p_is_whole (defScope t_is_whole) := ⟨rfl, rfl, rfl, by decide +kernel, rfl, by decide +kernel, by decide +kernel⟩
abbrev t_is_figure : Stmt := topS 5
abbrev p_is_figure : List Str := ["thing"]
theorem sc_is_figure : FnScope ["thing"] p_is_figure (defScope t_is_figure) := ⟨rfl, rfl, rfl, by decide +kernel, rfl, by decide +kernel, by decide +kernel⟩
abbrev t_is_row : Stmt := topS 6
abbrev p_is_row : List Str := ["thing"]
theorem sc_is_row : FnScope ["thing", "item"] p_is_row (defScope t_is_row) := ⟨rfl, rfl, rfl, by decide +kernel, rfl, by decide +kernel, by decide +kernel⟩
abbrev t_refuse_no_row : Stmt := topS 7
abbrev p_refuse_no_row : List Str := ["thing"]
theorem sc_refuse_no_row : FnScope ["thing"] p_refuse_no_row (defScope t_refuse_no_row) := ⟨rfl, rfl, rfl, by decide +kernel, rfl, by decide +kernel, by decide +kernel⟩
abbrev t_worth : Stmt := topS 8
abbrev p_worth : List Str := ["row"]
theorem sc_worth : FnScope ["row"] p_worth (defScope t_worth) := ⟨rfl, rfl, rfl, by decide +kernel, rfl, by decide +kernel, by decide +kernel⟩
abbrev t_marked : Stmt := topS 9
abbrev p_marked : List Str := ["row", "figure"]
theorem sc_marked : FnScope ["row", "figure", "marks", "item"] p_marked (defScope t_marked) := ⟨rfl, rfl, rfl, by decide +kernel, rfl, by decide +kernel, by decide +kernel⟩
abbrev t_weight : Stmt := topS 10
abbrev p_weight : List Str := ["row"]
theorem sc_weight : FnScope ["row"] p_weight (defScope t_weight) := ⟨rfl, rfl, rfl, by decide +kernel, rfl, by decide +kernel, by decide +kernel⟩
abbrev t_is_lean : Stmt := topS 11
abbrev p_is_lean : List Str := ["row"]
theorem sc_is_lean : FnScope ["row", "one", "other"] p_is_lean (defScope t_is_lean) := ⟨rfl, rfl, rfl, by decide +kernel, rfl, by decide +kernel, by decide +kernel⟩
abbrev t_Lcell_at : Stmt := topS 13
abbrev p_Lcell_at : List Str := ["_law_script", "_law_k"]
theorem sc_Lcell_at : FnScope ["_law_script", "_law_k"] p_Lcell_at (defScope t_Lcell_at) := ⟨rfl, rfl, rfl, by decide +kernel, rfl, by decide +kernel, by decide +kernel⟩
abbrev t_Lmixed : Stmt := topS 14
abbrev p_Lmixed : List Str := ["_law_cell", "_law_k"]
theorem sc_Lmixed : FnScope ["_law_cell", "_law_k", "_law_number_here"] p_Lmixed (defScope t_Lmixed) := ⟨rfl, rfl, rfl, by decide +kernel, rfl, by decide +kernel, by decide +kernel⟩
abbrev t_Lwhole : Stmt := topS 15
abbrev p_Lwhole : List Str := ["_law_found"]
theorem sc_Lwhole : FnScope ["_law_found"] p_Lwhole (defScope t_Lwhole) := ⟨rfl, rfl, rfl, by decide +kernel, rfl, by decide +kernel, by decide +kernel⟩
abbrev t_Lworth : Stmt := topS 17
abbrev p_Lworth : List Str := ["_law_row_here"]
theorem sc_Lworth : FnScope ["_law_row_here", "_law_found", "_law_power", "_law_figure"] p_Lworth (defScope t_Lworth) := ⟨rfl, rfl, rfl, by decide +kernel, rfl, by decide +kernel, by decide +kernel⟩
abbrev t_Lis_lean : Stmt := topS 18
abbrev p_Lis_lean : List Str := ["_law_row_here"]
theorem sc_Lis_lean : FnScope ["_law_row_here", "_law_k"] p_Lis_lean (defScope t_Lis_lean) := ⟨rfl, rfl, rfl, by decide +kernel, rfl, by decide +kernel, by decide +kernel⟩
abbrev t_Lrow : Stmt := topS 20
abbrev p_Lrow : List Str := ["_law_script"]
theorem sc_Lrow : FnScope ["_law_script", "_law_found", "_law_k", "_law_cell", "_law_number_here", "_law_figure"] p_Lrow (defScope t_Lrow) := ⟨rfl, rfl, rfl, by decide +kernel, rfl, by decide +kernel, by decide +kernel⟩
abbrev t_Lothers : Stmt := topS 21
abbrev p_Lothers : List Str := ["_law_row_here", "_law_cell"]
theorem sc_Lothers : FnScope ["_law_row_here", "_law_cell", "_law_at", "_law_odd", "_law_some"] p_Lothers (defScope t_Lothers) := ⟨rfl, rfl, rfl, by decide +kernel, rfl, by decide +kernel, by decide +kernel⟩
abbrev t_Lright : Stmt := topS 22
abbrev p_Lright : List Str := ["_law_row_here"]
theorem sc_Lright : FnScope ["_law_row_here", "_law_handed", "_law_due", "_law_turn", "_law_found", "_law_figure"] p_Lright (defScope t_Lright) := ⟨rfl, rfl, rfl, by decide +kernel, rfl, by decide +kernel, by decide +kernel⟩
abbrev t_law : Stmt := topS 23
abbrev p_law : List Str := ["_law_script"]
theorem sc_law : FnScope ["_law_script", "_law_row_here", "_law_thing"] p_law (defScope t_law) := ⟨rfl, rfl, rfl, by decide +kernel, rfl, by decide +kernel, by decide +kernel⟩
/-- what the top has left: where each def stands, and that the built-in names are still the built-in ones -/
structure Txt (K : PySem.W.Frag) (mg : Str → Option Value) where
  a_is_whole : Addr
  d_is_whole : FuncData
  F_is_whole : Fun K "is_whole" "is_whole" t_is_whole a_is_whole d_is_whole
  b_is_whole : Binds K d_is_whole p_is_whole []
  g_is_whole : mg "is_whole" = some (.ref a_is_whole)
  a_is_figure : Addr
  d_is_figure : FuncData
  F_is_figure : Fun K "is_figure" "is_figure" t_is_figure a_is_figure d_is_figure
  b_is_figure : Binds K d_is_figure p_is_figure []
  g_is_figure : mg "is_figure" = some (.ref a_is_figure)
  a_is_row : Addr
  d_is_row : FuncData
  F_is_row : Fun K "is_row" "is_row" t_is_row a_is_row d_is_row
  b_is_row : Binds K d_is_row p_is_row []
  g_is_row : mg "is_row" = some (.ref a_is_row)
  a_refuse_no_row : Addr
  d_refuse_no_row : FuncData
  F_refuse_no_row : Fun K "refuse_no_row" "refuse_no_row" t_refuse_no_row a_refuse_no_row d_refuse_no_row
  b_refuse_no_row : Binds K d_refuse_no_row p_refuse_no_row []
  g_refuse_no_row : mg "refuse_no_row" = some (.ref a_refuse_no_row)
  a_worth : Addr
  d_worth : FuncData
  F_worth : Fun K "worth" "worth" t_worth a_worth d_worth
  b_worth : Binds K d_worth p_worth []
  g_worth : mg "worth" = some (.ref a_worth)
  a_marked : Addr
  d_marked : FuncData
  F_marked : Fun K "marked" "marked" t_marked a_marked d_marked
  b_marked : Binds K d_marked p_marked []
  g_marked : mg "marked" = some (.ref a_marked)
  a_weight : Addr
  d_weight : FuncData
  F_weight : Fun K "weight" "weight" t_weight a_weight d_weight
  b_weight : Binds K d_weight p_weight []
  g_weight : mg "weight" = some (.ref a_weight)
  a_is_lean : Addr
  d_is_lean : FuncData
  F_is_lean : Fun K "is_lean" "is_lean" t_is_lean a_is_lean d_is_lean
  b_is_lean : Binds K d_is_lean p_is_lean []
  g_is_lean : mg "is_lean" = some (.ref a_is_lean)
  a_Lcell_at : Addr
  d_Lcell_at : FuncData
  F_Lcell_at : Fun K "_law_cell_at" "_law_cell_at" t_Lcell_at a_Lcell_at d_Lcell_at
  b_Lcell_at : Binds K d_Lcell_at p_Lcell_at []
  g_Lcell_at : mg "_law_cell_at" = some (.ref a_Lcell_at)
  a_Lmixed : Addr
  d_Lmixed : FuncData
  F_Lmixed : Fun K "_law_mixed" "_law_mixed" t_Lmixed a_Lmixed d_Lmixed
  b_Lmixed : Binds K d_Lmixed p_Lmixed []
  g_Lmixed : mg "_law_mixed" = some (.ref a_Lmixed)
  a_Lwhole : Addr
  d_Lwhole : FuncData
  F_Lwhole : Fun K "_law_whole" "_law_whole" t_Lwhole a_Lwhole d_Lwhole
  b_Lwhole : Binds K d_Lwhole p_Lwhole []
  g_Lwhole : mg "_law_whole" = some (.ref a_Lwhole)
  a_Lworth : Addr
  d_Lworth : FuncData
  F_Lworth : Fun K "_law_worth" "_law_worth" t_Lworth a_Lworth d_Lworth
  b_Lworth : Binds K d_Lworth p_Lworth []
  g_Lworth : mg "_law_worth" = some (.ref a_Lworth)
  a_Lis_lean : Addr
  d_Lis_lean : FuncData
  F_Lis_lean : Fun K "_law_is_lean" "_law_is_lean" t_Lis_lean a_Lis_lean d_Lis_lean
  b_Lis_lean : Binds K d_Lis_lean p_Lis_lean []
  g_Lis_lean : mg "_law_is_lean" = some (.ref a_Lis_lean)
  a_Lrow : Addr
  d_Lrow : FuncData
  F_Lrow : Fun K "_law_row" "_law_row" t_Lrow a_Lrow d_Lrow
  b_Lrow : Binds K d_Lrow p_Lrow []
  g_Lrow : mg "_law_row" = some (.ref a_Lrow)
  a_Lothers : Addr
  d_Lothers : FuncData
  F_Lothers : Fun K "_law_others" "_law_others" t_Lothers a_Lothers d_Lothers
  b_Lothers : Binds K d_Lothers p_Lothers []
  g_Lothers : mg "_law_others" = some (.ref a_Lothers)
  a_Lright : Addr
  d_Lright : FuncData
  F_Lright : Fun K "_law_right" "_law_right" t_Lright a_Lright d_Lright
  b_Lright : Binds K d_Lright p_Lright []
  g_Lright : mg "_law_right" = some (.ref a_Lright)
  a_law : Addr
  d_law : FuncData
  F_law : Fun K "law" "law" t_law a_law d_law
  b_law : Binds K d_law p_law []
  g_law : mg "law" = some (.ref a_law)
  z_isinstance : mg "isinstance" = none
  z_int : mg "int" = none
  z_bool : mg "bool" = none
  z_list : mg "list" = none
  z_all : mg "all" = none
  z_len : mg "len" = none
  z_reversed : mg "reversed" = none
  z_zip : mg "zip" = none
  z_range : mg "range" = none
  z_enumerate : mg "enumerate" = none
  z_tuple : mg "tuple" = none
  c_LeanError : Addr
  gc_LeanError : mg "LeanError" = some (.ref c_LeanError)
  c_NoRow : Addr
  gc_NoRow : mg "NoRow" = some (.ref c_NoRow)
  digits : PySem.W.nsIn K cStatics "sys.int_max_str_digits" = some none
section
variable {P : Program} {w : World} {K : PySem.W.Frag} {mg : Str → Option Value} {base : Heap}
/-! ### is_whole -/
def sp_is_whole (K : PySem.W.Frag) : Sp := fun vs H Q _ => ∃ x, vs = [x] ∧ Plain K H x ∧ Q (.bl (intV x)) H
theorem ok_is_whole (T : Txt K mg) : FnOk P w K mg base CX0 1 T.a_is_whole T.d_is_whole p_is_whole (sp_is_whole K) := by
  refine T.F_is_whole.ok sc_is_whole (fun vs H Q E h => ?_) (fun cdv A outer s H vs Q E hr h => ?_)
  · obtain ⟨x, rfl, _⟩ := h
    rfl
  · obtain ⟨x, rfl, ⟨i, b, l, k, e⟩, q⟩ := h
    obtain ⟨t, ty, h1, h2, _⟩ := k.ex
    refine ⟨_, pss_one (ps_ret (pe_and (pe_callB call_isi (by rfl) T.z_isinstance (by decide +kernel) (pa_cons (pv 0) (pa_cons (pe_bltn (v := .ty "int") (by rfl) T.z_int (by decide +kernel) rfl) pa_nil)))
      (pe_one (pe_not (pe_callB call_isi (by rfl) T.z_isinstance (by decide +kernel) (pa_cons (pv 0) (pa_cons (pe_bltn (v := .ty "bool") (by rfl) T.z_bool (by decide +kernel) rfl) pa_nil))))))), ?_⟩
    refine ⟨x, rfl, x, _, t, _, i, rfl, .ty _, ty, h1, i, rfl, ?_⟩
    cases i with
    | true => exact iteT ⟨x, rfl, x, _, t, _, b, rfl, .ty _, ty, h2, b, rfl, by rw [← e] at q; exact q⟩
    | false => exact iteF (by rw [← e] at q; exact q)
/-! ### is_figure -/
def sp_is_figure (K : PySem.W.Frag) : Sp := fun vs H Q _ => ∃ x, vs = [x] ∧ Plain K H x ∧ Q (.bl (figV x)) H
theorem ok_is_figure (T : Txt K mg) : FnOk P w K mg base CX0 2 T.a_is_figure T.d_is_figure p_is_figure (sp_is_figure K) := by
  refine T.F_is_figure.ok sc_is_figure (fun vs H Q E h => ?_) (fun cdv A outer s H vs Q E hr h => ?_)
  · obtain ⟨x, rfl, _⟩ := h
    rfl
  · obtain ⟨x, rfl, k, q⟩ := h
    refine ⟨_, pss_one (ps_ret (pe_and (pe_call (ok_is_whole T) hr (by rfl) T.g_is_whole T.F_is_whole.kp T.b_is_whole .nil pass0 (pa_cons (pv 0) pa_nil))
      (pe_one (pe_chain op_le op_le (pe_un un_neg pe_int) (pv 0) pe_int)))), ?_⟩
    refine ⟨x, rfl, x, rfl, k, _, rfl, ?_⟩
    cases x with
    | int i =>
      refine iteT ⟨1, rfl, .int i, rfl, _, _, rfl, rfl, _, rfl, ?_⟩
      by_cases h0 : -1 ≤ i
      · rw [decide_eq_true h0]
        refine iteT ⟨_, _, rfl, rfl, ?_⟩
        have e : figV (.int i) = decide (i ≤ 1) := by simp [figV, h0]
        rw [e] at q
        exact q
      · rw [decide_eq_false h0]
        have e : figV (.int i) = false := by simp [figV, h0]
        rw [e] at q
        exact iteF q
    | _ => exact iteF q
/-! ### is_row -/
/-- what a list of known things is told -/
def rowB (xs : List V) : Bool := xs.all figV && (xs.isEmpty || !decide (xs.getLast? = some (.int 0)))
def sp_is_row (K : PySem.W.Frag) : Sp := fun vs H Q _ => ∃ x, vs = [x] ∧
  ((∃ i b, Kind K H x i b false ∧ Q (.bl false) H) ∨ ∃ a xs, x = .ref a ∧ SqL K H a xs ∧ (∀ y ∈ xs, Plain K H y) ∧ xs.length ≤ 4000000 ∧ ∀ H', Same H H' → Q (.bl (rowB xs)) H')
theorem ok_is_row (T : Txt K mg) : FnOk P w K mg base CX0 3 T.a_is_row T.d_is_row p_is_row (sp_is_row K) := by
  refine T.F_is_row.ok sc_is_row (fun vs H Q E h => ?_) (fun cdv A outer s H vs Q E hr h => ?_)
  · obtain ⟨x, rfl, _⟩ := h
    rfl
  · obtain ⟨x, rfl, h⟩ := h
    refine ⟨_, pss_cons (ps_if (pt_not (pt_val (pe_callB call_isi (by rfl) T.z_isinstance (by decide +kernel) (pa_cons (pv 0) (pa_cons (pe_bltn (v := .ty "list") (by rfl) T.z_list (by decide +kernel) rfl) pa_nil))))) (pss_one (ps_ret pe_bl)) pss_nil)
      (pss_cons (ps_if (pt_not (pt_val (pe_callB (cr_all rfl) (by rfl) T.z_all (by decide +kernel) (pa_cons (pe_lc (own := [("item", 1)]) (g := gName 1) (tt := tYes) (by rfl) sc_is_row.nd (pi_list (pv 0)) (blkOk_by (N := ["thing", "item"]) (own := [("item", 1)]) (sc := defScope t_is_row) (by decide +kernel))
          (fun _ _ _ _ _ => pg_name (i := 1) sc_is_row.nd rfl (Or.inl rfl)) (fun _ _ _ _ _ => pts_nil)
          (fun _ _ _ _ _ => pe_call (ok_is_figure T) (by exact hr) (by rfl) T.g_is_figure T.F_is_figure.kp T.b_is_figure .nil pass0 (pa_cons (pv 1) pa_nil))) pa_nil)))) (pss_one (ps_ret pe_bl)) pss_nil)
      (pss_one (ps_ret (pe_or (pe_cmpR op_eq (pe_callB call_len_seq (by rfl) T.z_len PySem.boot_len (pa_cons (pv 0) pa_nil)) pe_int (nomark _))
        (pe_one (pe_cmpR op_ne (pe_ix ix_list (pv 0) (pe_un un_neg pe_int) (fun _ _ => rfl)) pe_int (nomark _))))))), ?_⟩
    rcases h with ⟨i, b, k, q⟩ | ⟨a, xs, rfl, hS, hp, hl, q⟩
    · obtain ⟨t, ty, _, _, h3⟩ := k.ex
      refine ⟨x, rfl, x, _, t, _, false, rfl, .ty _, ty, h3, false, rfl, ?_⟩
      exact iteT q
    · obtain ⟨t, ty, _, _, h3⟩ := (kind_list (K := K) (H := H) hS).ex
      refine ⟨.ref a, rfl, .ref a, _, t, _, true, rfl, .ty _, ty, h3, true, rfl, ?_⟩
      refine iteF ?_
      refine ⟨.ref a, rfl, a, rfl, ⟨_, hS⟩, fun D nD => ?_⟩
      have sD : ∀ ys, Same H (upd H D (.lst ys)) := fun ys => same_upd nD
      refine lc_list (K := K) (a := a) (xs := xs) (fun i H1 => H1 = upd H D (.lst ((xs.take i).map fun y => .bl (figV y)))) rfl (fun i H1 _ e => by rw [e]; exact (sD _).seq hS) (fun i y H1 hy e => ?_) (fun H1 e => ?_)
      · subst e
        have py := (hp y (List.mem_of_getElem? hy)).mono (sD ((xs.take i).map fun y => .bl (figV y)))
        refine ⟨rfl, y, rfl, y, rfl, py, _, upd_same, ?_, ?_⟩
        · rw [List.length_map, List.length_take]
          have : xs.length < sizeLine := Nat.lt_of_le_of_lt hl (by decide)
          omega
        · rw [upd_upd, List.take_add_one, hy, List.map_append]
          rfl
      · subst e
        rw [List.take_length]
        have hD : SqL K (upd H D (.lst (xs.map fun y => .bl (figV y)))) D ((xs.map figV).map V.bl) := by
          rw [List.map_map]
          exact SqL.of upd_same
        refine ⟨D, xs.map figV, rfl, hD, _, rfl, ?_⟩
        have ea : (xs.map figV).all id = xs.all figV := by
          rw [List.all_map]
          rfl
        rw [ea]
        have sH : Same H (upd H D (.lst (xs.map fun y => .bl (figV y)))) := sD _
        have q' := q _ sH
        cases hb : xs.all figV with
        | false =>
          have er : rowB xs = false := by simp [rowB, hb]
          rw [er] at q'
          exact iteT q'
        | true =>
          refine iteF ?_
          refine ⟨.ref a, rfl, a, xs, rfl, .inl (sH.seq hS), rfl, _, rfl, ?_⟩
          by_cases h0 : xs = []
          · subst h0
            refine iteT ?_
            exact q'
          · have hne : ¬ ((V.int (xs.length : Int)) = V.int 0) := fun z => h0 (List.length_eq_zero_iff.mp (by have := V.int.inj z; omega))
            rw [decide_eq_false hne]
            have hg := atI_getLast xs h0
            refine iteF ⟨.ref a, rfl, 1, rfl, a, xs, -1, _, rfl, rfl, sH.seq hS, hg, ?_⟩
            have hm : figV (xs.getLast h0) = true := List.all_eq_true.mp hb _ (List.getLast_mem h0)
            have er : rowB xs = !decide (xs.getLast h0 = .int 0) := by
              have e1 : xs.isEmpty = false := by simp [h0]
              simp [rowB, hb, e1, List.getLast?_eq_getLast h0]
            rw [er] at q'
            cases hv : xs.getLast h0 with
            | int j =>
              rw [hv] at q'
              exact ⟨rfl, q'⟩
            | _ => rw [hv] at hm; cases hm
/-! ### refuse_no_row, of rows -/
theorem row_all {ns : List Int} (r : Row ns) : (ns.map V.int).all figV = true := by
  rw [List.all_map, List.all_eq_true]
  intro n hn
  have := r.1 n hn
  simp [figV, this]
theorem row_yes {ns : List Int} (r : Row ns) : rowB (ns.map V.int) = true := by
  have h1 := row_all r
  have h2 : decide ((ns.map V.int).getLast? = some (.int 0)) = false := by
    rw [decide_eq_false_iff_not, List.getLast?_map]
    intro z
    cases e : ns.getLast? with
    | none => rw [e] at z; exact nomatch z
    | some n =>
      rw [e] at z
      have z2 : V.int n = V.int 0 := Option.some.inj z
      exact r.2 (by rw [e, V.int.inj z2])
  unfold rowB
  rw [h1, h2]
  simp
theorem RowAt.plain {K : PySem.W.Frag} {H : Hp} {ns : List Int} : ∀ y ∈ ns.map V.int, Plain K H y := fun y hy => by
  obtain ⟨n, _, rfl⟩ := List.mem_map.mp hy
  exact plain_int n
def sp_refuse (K : PySem.W.Frag) : Sp := fun vs H Q _ => ∃ a ns, vs = [.ref a] ∧ RowAt K H a ns ∧ ∀ H', Same H H' → Q .non H'
theorem ok_refuse_no_row (T : Txt K mg) : FnOk P w K mg base CX0 4 T.a_refuse_no_row T.d_refuse_no_row p_refuse_no_row (sp_refuse K) := by
  refine T.F_refuse_no_row.ok sc_refuse_no_row (fun vs H Q E h => ?_) (fun cdv A outer s H vs Q E hr h => ?_)
  · obtain ⟨x, _, rfl, _⟩ := h
    rfl
  · obtain ⟨a, ns, rfl, hS, q⟩ := h
    refine ⟨_, pss_one (ps_if (pt_not (pt_val (pe_call (ok_is_row T) hr (by rfl) T.g_is_row T.F_is_row.kp T.b_is_row .nil pass0 (pa_cons (pv 0) pa_nil)))) (pss_one ps_never) pss_nil), ?_⟩
    refine ⟨.ref a, rfl, .ref a, rfl, .inr ⟨a, ns.map V.int, rfl, hS.1, RowAt.plain, by rw [List.length_map]; exact hS.2.2, fun H' s' => ?_⟩⟩
    refine ⟨_, rfl, ?_⟩
    rw [row_yes hS.2.1]
    exact iteF (q _ s')
/-! ### marked -/
def sp_marked (K : PySem.W.Frag) : Sp := fun vs H Q _ => ∃ a ns f, vs = [.ref a, .int f] ∧ SqL K H a (ns.map V.int) ∧ ns.length ≤ 4000000 ∧ ∀ H', Same H H' → Q (.int ((mk f ns : Nat) : Int)) H'
theorem ok_marked (T : Txt K mg) : FnOk P w K mg base CX0 1 T.a_marked T.d_marked p_marked (sp_marked K) := by
  refine T.F_marked.ok sc_marked (fun vs H Q E h => ?_) (fun cdv A outer s H vs Q E hr h => ?_)
  · obtain ⟨_, _, _, rfl, _⟩ := h
    rfl
  · obtain ⟨a, ns, f, rfl, hS, hl, q⟩ := h
    refine ⟨_, pss_cons (ps_setLc (i := 2) (own := [("item", 3)]) (g := gName 3) (tt := tYes) (by rfl) sc_marked.nd rfl rfl (sw_true rfl rfl rfl (by decide +kernel)) (pi_reversed (by rfl) T.z_reversed (pa_cons (pv 0) pa_nil))
        (blkOk_by (N := ["row", "figure", "marks", "item"]) (own := [("item", 3)]) (sc := defScope t_marked) (by decide +kernel))
        (fun _ _ _ _ _ => pg_name (i := 3) sc_marked.nd rfl (Or.inl rfl)) (fun _ _ _ _ _ => pts_nil)
        (fun _ _ _ _ _ => pe_ifExp (pt_cmpR op_eq (pv 3) (pv 1) (nomark _)) pe_str pe_str))
      (pss_one (ps_ret (pe_callTy (call_int2 T.digits) (by rfl) T.z_int (by decide +kernel) (pa_cons (pe_op op_add_str pe_str (pe_join pe_str (pv 2))) (pa_cons pe_int pa_nil))))), ?_⟩
    refine ⟨.ref a, rfl, a, ns.map V.int, rfl, hS, fun D nD => ?_⟩
    have sD : ∀ ys, Same H (upd H D (.lst ys)) := fun ys => same_upd nD
    have el : (ns.map V.int).length = ns.length := List.length_map ..
    refine ⟨fun i m H1 => i + m = ns.length ∧ H1 = upd H D (.lst (((ns.reverse.take i).map fun n => .str (sign1 (sg f n))))), ⟨ns.length, by omega, rfl⟩, fun i m H1 hW => ?_⟩
    obtain ⟨em, rfl⟩ := hW
    by_cases hi : i < ns.length
    · have hj : ns.length - 1 - i < ns.length := by omega
      have g : (ns.map V.int)[(ns.map V.int).length - 1 - i]? = some (.int ns[ns.length - 1 - i]) := by
        rw [el, List.getElem?_map, List.getElem?_eq_getElem hj]
        rfl
      have gr : ns.reverse[i]? = some ns[ns.length - 1 - i] := by
        rw [List.getElem?_reverse hi, List.getElem?_eq_getElem hj]
      refine .inr ⟨⟨by rw [el]; exact hi, _, _, (sD _).seq hS, g⟩, fun H' => H' = upd H D (.lst (((ns.reverse.take (i + 1)).map fun n => .str (sign1 (sg f n))))), fun H' e => ⟨m - 1, by omega, by omega, e⟩, fun x H' hy => ?_⟩
      obtain ⟨rfl, fx⟩ := hy
      have ex := Option.some.inj ((fx _ ((sD _).seq hS)).symm.trans g)
      subst ex
      have fin : ∀ z : V, z = .str (sign1 (sg f ns[ns.length - 1 - i])) → ∃ acc, (upd H D (.lst (((ns.reverse.take i).map fun n => .str (sign1 (sg f n)))))) D = some (.lst acc) ∧ acc.length < sizeLine ∧
          upd (upd H D (.lst (((ns.reverse.take i).map fun n => .str (sign1 (sg f n)))))) D (.lst (acc ++ [z])) = upd H D (.lst (((ns.reverse.take (i + 1)).map fun n => .str (sign1 (sg f n))))) := fun z ez => by
        subst ez
        refine ⟨_, upd_same, ?_, ?_⟩
        · rw [List.length_map, List.length_take]
          have : ns.length < sizeLine := Nat.lt_of_le_of_lt hl (by decide)
          omega
        · rw [upd_upd, List.take_add_one, gr, List.map_append]
          rfl
      refine ⟨rfl, .int ns[ns.length - 1 - i], rfl, .int f, rfl, rfl, _, rfl, ?_⟩
      by_cases hf : ns[ns.length - 1 - i] = f
      · rw [decide_eq_true (show V.int ns[ns.length - 1 - i] = V.int f by rw [hf])]
        refine iteT (fin _ ?_)
        rw [show sg f ns[ns.length - 1 - i] = 49 from if_pos hf]
        rfl
      · rw [decide_eq_false (show ¬ V.int ns[ns.length - 1 - i] = V.int f from fun z => hf (V.int.inj z))]
        refine iteF (fin _ ?_)
        rw [show sg f ns[ns.length - 1 - i] = 48 from if_neg hf]
        rfl
    · refine .inl ⟨(show (ns.map V.int).length ≤ i by rw [el]; omega), ?_⟩
      have et : ns.reverse.take i = ns.reverse := List.take_of_length_le (by rw [List.length_reverse]; omega)
      rw [et]
      have hD : SqL K (upd H D (.lst (ns.reverse.map fun n => V.str (sign1 (sg f n))))) D (((ns.reverse.map (sg f)).map sign1).map V.str) := by
        rw [List.map_map, List.map_map]
        exact SqL.of upd_same
      have e1 := joined_signs Str.empty rfl (ns.reverse.map (sg f))
      have l1 : (Txt.join Str.empty ((ns.reverse.map (sg f)).map sign1)).length = ns.length := by
        have := congrArg List.length e1
        rw [Array.length_toList, List.length_map, List.length_reverse] at this
        exact this
      have lim : (16777216 : Nat) = sizeLine := by decide
      refine ⟨⟨_, rfl⟩, .ref D, rfl, Str.empty, D, (ns.reverse.map (sg f)).map sign1, rfl, rfl, .inl hD, ?_, _, _, rfl, rfl, ?_, ?_⟩
      · have e2 : (((ns.reverse.map (sg f)).map sign1).map (·.length)) = List.replicate ns.length 1 := by
          rw [List.map_map, List.map_map]
          refine List.eq_replicate_iff.mpr ⟨by rw [List.length_map, List.length_reverse], fun b hb => ?_⟩
          obtain ⟨n, _, rfl⟩ := List.mem_map.mp hb
          rfl
        rw [e2, List.sum_replicate_nat]
        show ns.length * 1 + _ * 0 ≤ 16777216
        omega
      · rw [l1]
        show 1 + ns.length ≤ sizeLine
        omega
      · have e3 : ((("0" : Str) ++ Txt.join Str.empty ((ns.reverse.map (sg f)).map sign1))).cps.toList = 48 :: (ns.reverse.map (sg f)) := by
          rw [app_list, e1]
          rfl
        refine ⟨_, rfl, ?_, ?_, ?_⟩
        · rw [e3]
          exact sg_bits f ns.reverse
        · rw [e3]
          exact fun z => nomatch z
        · rw [e3, sg_val]
          exact q _ (sD _)
/-! ### worth -/
def sp_worth (K : PySem.W.Frag) : Sp := fun vs H Q _ => ∃ a ns, vs = [.ref a] ∧ RowAt K H a ns ∧ ∀ H', Same H H' → Q (.int (val ns)) H'
theorem ok_worth (T : Txt K mg) : FnOk P w K mg base CX0 5 T.a_worth T.d_worth p_worth (sp_worth K) := by
  refine T.F_worth.ok sc_worth (fun vs H Q E h => ?_) (fun cdv A outer s H vs Q E hr h => ?_)
  · obtain ⟨_, _, rfl, _⟩ := h
    rfl
  · obtain ⟨a, ns, rfl, hS, q⟩ := h
    refine ⟨_, pss_cons (ps_expr (pe_call (ok_refuse_no_row T) hr (by rfl) T.g_refuse_no_row T.F_refuse_no_row.kp T.b_refuse_no_row .nil pass0 (pa_cons (pv 0) pa_nil)))
      (pss_one (ps_ret (pe_op op_sub (pe_call (ok_marked T) (hr.mono (by decide)) (by rfl) T.g_marked T.F_marked.kp T.b_marked .nil pass0 (pa_cons (pv 0) (pa_cons pe_int pa_nil)))
        (pe_call (ok_marked T) (hr.mono (by decide)) (by rfl) T.g_marked T.F_marked.kp T.b_marked .nil pass0 (pa_cons (pv 0) (pa_cons (pe_un un_neg pe_int) pa_nil)))))), ?_⟩
    refine ⟨.ref a, rfl, a, ns, rfl, hS, fun H1 s1 => ?_⟩
    refine ⟨.ref a, rfl, a, ns, 1, rfl, s1.seq hS.1, hS.2.2, fun H2 s2 => ?_⟩
    refine ⟨.ref a, rfl, 1, rfl, a, ns, -1, rfl, s2.seq (s1.seq hS.1), hS.2.2, fun H3 s3 => ?_⟩
    refine ⟨_, _, rfl, rfl, ?_⟩
    show Q (.int (((mk 1 ns : Nat) : Int) - ((mk (-1) ns : Nat) : Int))) H3
    rw [mk_val ns hS.2.1.1]
    exact q _ (s1.trans (s2.trans s3))
/-! ### weight -/
def wt (ns : List Int) : Nat := ns.length - ns.count 0
def sp_weight (K : PySem.W.Frag) : Sp := fun vs H Q _ => ∃ a ns, vs = [.ref a] ∧ RowAt K H a ns ∧ ∀ H', Same H H' → Q (.int ((ns.length : Int) - ((ns.count 0 : Nat) : Int))) H'
theorem ok_weight (T : Txt K mg) : FnOk P w K mg base CX0 5 T.a_weight T.d_weight p_weight (sp_weight K) := by
  refine T.F_weight.ok sc_weight (fun vs H Q E h => ?_) (fun cdv A outer s H vs Q E hr h => ?_)
  · obtain ⟨_, _, rfl, _⟩ := h
    rfl
  · obtain ⟨a, ns, rfl, hS, q⟩ := h
    refine ⟨_, pss_cons (ps_expr (pe_call (ok_refuse_no_row T) hr (by rfl) T.g_refuse_no_row T.F_refuse_no_row.kp T.b_refuse_no_row .nil pass0 (pa_cons (pv 0) pa_nil)))
      (pss_one (ps_ret (pe_op op_sub (pe_callB call_len_seq (by rfl) T.z_len PySem.boot_len (pa_cons (pv 0) pa_nil))
        (pe_bm PySem.F.plainAttrs_list PySem.F.slot_list_count PySem.F.type_list_count mt_lcount (pv 0) (pa_cons pe_int pa_nil))))), ?_⟩
    refine ⟨.ref a, rfl, a, ns, rfl, hS, fun H1 s1 => ?_⟩
    have hA := s1.seq hS.1
    refine ⟨.ref a, rfl, a, ns.map V.int, rfl, .inl hA, .ref a, rfl, ?_, a, ns, 0, rfl, rfl, hA, _, _, rfl, rfl, ?_⟩
    · exact .inl ⟨rfl, _, hA⟩
    · have e : ((ns.map V.int).length : Int) = (ns.length : Int) := by rw [List.length_map]
      show Q (.int (((ns.map V.int).length : Int) - ((ns.count 0 : Nat) : Int))) H1
      rw [e]
      exact q _ s1
/-! ### is_lean -/
theorem gaps_zip : ∀ ns : List Int, gaps ns = (ns.zip (ns.drop 1)).all fun p => decide (p.1 = 0) || decide (p.2 = 0)
  | [] => rfl
  | [_] => rfl
  | x :: y :: r => by
    have ih := gaps_zip (y :: r)
    show ((decide (x = 0) || decide (y = 0)) && gaps (y :: r)) = _
    rw [ih]
    rfl
def sp_is_lean (K : PySem.W.Frag) : Sp := fun vs H Q _ => ∃ a ns, vs = [.ref a] ∧ RowAt K H a ns ∧ ∀ H', Same H H' → Q (.bl (gaps ns)) H'
theorem cutV1 (xs : List V) : cutV xs (some 1) none = xs.drop 1 := by
  unfold cutV
  rw [show HT.sIx xs.length 0 (some 1) = min 1 xs.length from HT.sIx_nat xs.length 0 1, HT.sIx_none]
  match xs with
  | [] => rfl
  | x :: r =>
    have e : min 1 (x :: r).length = 1 := by simp
    rw [e]
    simp
theorem ok_is_lean (T : Txt K mg) : FnOk P w K mg base CX0 5 T.a_is_lean T.d_is_lean p_is_lean (sp_is_lean K) := by
  refine T.F_is_lean.ok sc_is_lean (fun vs H Q E h => ?_) (fun cdv A outer s H vs Q E hr h => ?_)
  · obtain ⟨_, _, rfl, _⟩ := h
    rfl
  · obtain ⟨a, ns, rfl, hS, q⟩ := h
    refine ⟨_, pss_cons (ps_expr (pe_call (ok_refuse_no_row T) hr (by rfl) T.g_refuse_no_row T.F_refuse_no_row.kp T.b_refuse_no_row .nil pass0 (pa_cons (pv 0) pa_nil)))
      (pss_one (ps_ret (pe_callB (cr_all rfl) (by rfl) T.z_all (by decide +kernel) (pa_cons (pe_lc (own := [("one", 1), ("other", 2)]) (g := gTup K 2 (gCons (gName 1) (gCons (gName 2) gNil))) (tt := tYes) (by rfl) sc_is_lean.nd
          (pi_zip (by rfl) T.z_zip (pa_cons (pv 0) (pa_cons (pe_slice sl_list (pv 0) (po_some pe_int) po_none) pa_nil)))
          (blkOk_by (N := ["row", "one", "other"]) (own := [("one", 1), ("other", 2)]) (sc := defScope t_is_lean) (by decide +kernel))
          (fun _ _ _ _ _ => by exact pg_tup rfl (pgs_cons (pg_name (i := 1) sc_is_lean.nd rfl (Or.inl rfl)) (pgs_cons (pg_name (i := 2) sc_is_lean.nd rfl (Or.inl rfl)) pgs_nil)))
          (fun _ _ _ _ _ => pts_nil)
          (fun _ _ _ _ _ => pe_or (pe_cmpR op_eq (pv 1) pe_int (nomark _)) (pe_one (pe_cmpR op_eq (pv 2) pe_int (nomark _))))) pa_nil)))), ?_⟩
    refine ⟨.ref a, rfl, a, ns, rfl, hS, fun H1 s1 => ?_⟩
    have hA := s1.seq hS.1
    refine ⟨.ref a, rfl, .ref a, rfl, 1, rfl, a, ns.map V.int, rfl, hA, fun c nc => ?_⟩
    have s2 : Same H1 (upd H1 c (.lst (cutV (ns.map V.int) (some 1) none))) := same_upd nc
    have ec : cutV (ns.map V.int) (some 1) none = (ns.drop 1).map V.int := by rw [cutV1, List.map_drop]
    rw [ec] at s2 ⊢
    have hC : SqL K (upd H1 c (.lst ((ns.drop 1).map V.int))) c ((ns.drop 1).map V.int) := SqL.of upd_same
    refine ⟨a, c, ns.map V.int, _, rfl, s2.seq hA, hC, fun D nD => ?_⟩
    let B := (ns.zip (ns.drop 1)).map fun p => decide (p.1 = 0) || decide (p.2 = 0)
    have lB : B.length = ns.length - 1 := by
      show ((ns.zip (ns.drop 1)).map _).length = _
      rw [List.length_map, List.length_zip, List.length_drop]
      omega
    generalize hH2 : upd H1 c (.lst ((ns.drop 1).map V.int)) = H2 at s2 hC nD
    have sD : ∀ ys, Same H2 (upd H2 D (.lst ys)) := fun ys => same_upd nD
    refine ⟨fun i m H3 => i + m = ns.length - 1 ∧ Same H2 H3 ∧ H3 D = some (.lst ((B.take i).map V.bl)), ⟨ns.length - 1, by omega, sD _, upd_same⟩, fun i m H3 hW => ?_⟩
    obtain ⟨em, s3, eD⟩ := hW
    have hA3 := s3.seq (s2.seq hA)
    have hC3 := s3.seq hC
    by_cases hi : i < ns.length - 1
    · have h1 : i < ns.length := by omega
      have h2 : i + 1 < ns.length := by omega
      have g1 : (ns.map V.int)[i]? = some (.int ns[i]) := by
        rw [List.getElem?_map, List.getElem?_eq_getElem h1]
        rfl
      have g2 : ((ns.drop 1).map V.int)[i]? = some (.int ns[i + 1]) := by
        rw [List.getElem?_map, List.getElem?_drop, Nat.add_comm 1 i, List.getElem?_eq_getElem h2]
        rfl
      have gB : B[i]? = some (decide (ns[i] = 0) || decide (ns[i + 1] = 0)) := by
        show ((ns.zip (ns.drop 1)).map _)[i]? = _
        have z : (ns.zip (ns.drop 1))[i]? = some (ns[i], ns[i + 1]) := by
          rw [List.getElem?_zip_eq_some]
          exact ⟨List.getElem?_eq_getElem h1, by rw [List.getElem?_drop, Nat.add_comm 1 i, List.getElem?_eq_getElem h2]⟩
        rw [List.getElem?_map, z]
        rfl
      refine .inr ⟨⟨_, _, _, _, hA3, hC3, g1, g2⟩, fun H' => Same H2 H' ∧ H' D = some (.lst ((B.take (i + 1)).map V.bl)), fun H' e => ⟨m - 1, by omega, by omega, e⟩, fun x H' hy => ?_⟩
      obtain ⟨t, x1, x2, rfl, nT, rfl, f1, f2⟩ := hy
      have ex1 := Option.some.inj ((f1 _ hA3).symm.trans g1)
      have ex2 := Option.some.inj ((f2 _ hC3).symm.trans g2)
      subst ex1
      subst ex2
      have sT : Same H3 (upd H3 t (.tup [.int ns[i], .int ns[i + 1]])) := same_upd nT
      have eD' := sT _ _ eD
      have fin : ∀ b : Bool, b = (decide (ns[i] = 0) || decide (ns[i + 1] = 0)) → ∃ acc, (upd H3 t (.tup [.int ns[i], .int ns[i + 1]])) D = some (.lst acc) ∧ acc.length < sizeLine ∧
          Same H2 (upd (upd H3 t (.tup [.int ns[i], .int ns[i + 1]])) D (.lst (acc ++ [.bl b]))) ∧ (upd (upd H3 t (.tup [.int ns[i], .int ns[i + 1]])) D (.lst (acc ++ [.bl b]))) D = some (.lst ((B.take (i + 1)).map V.bl)) := fun b eb => by
        refine ⟨_, eD', ?_, fun q o e => ?_, ?_⟩
        · rw [List.length_map, List.length_take]
          have : ns.length < sizeLine := Nat.lt_of_le_of_lt hS.2.2 (by decide)
          omega
        · have nq : q ≠ D := ne_of_none e nD
          rw [upd_ne nq]
          exact sT _ _ (s3 _ _ e)
        · rw [upd_same, List.take_add_one, gB, List.map_append, eb]
          rfl
      refine ⟨t, [.int ns[i], .int ns[i + 1]], rfl, SqT.of upd_same, rfl, _, _, rfl, _, _, rfl, rfl, rfl, ?_⟩
      refine ⟨.int ns[i], rfl, rfl, _, rfl, ?_⟩
      by_cases h0 : ns[i] = 0
      · rw [decide_eq_true (show V.int ns[i] = V.int 0 by rw [h0])]
        exact iteT (fin true (by simp [h0]))
      · rw [decide_eq_false (show ¬ V.int ns[i] = V.int 0 from fun z => h0 (V.int.inj z))]
        refine iteF ⟨.int ns[i + 1], rfl, rfl, fin _ ?_⟩
        have e2 : decide (V.int ns[i + 1] = V.int 0) = decide (ns[i + 1] = 0) := decide_eq_decide.mpr ⟨V.int.inj, fun z => by rw [z]⟩
        rw [e2]
        simp [h0]
    · refine .inl ⟨⟨_, _, hA3, hC3, .inr (by rw [List.length_map, List.length_drop]; omega)⟩, ?_⟩
      have et : B.take i = B := List.take_of_length_le (by omega)
      rw [et] at eD
      refine ⟨D, B, rfl, SqL.of eD, ?_⟩
      have e : B.all id = gaps ns := by
        rw [gaps_zip]
        show ((ns.zip (ns.drop 1)).map _).all id = _
        rw [List.all_map]
        rfl
      rw [e]
      exact q _ (s1.trans (s2.trans s3))
/-! ### the law's cell_at -/
def cell (ns : List Int) (k : Nat) : Int := ns.getD k 0
def sp_Lcell_at (K : PySem.W.Frag) : Sp := fun vs H Q _ => ∃ (a : Addr) (ns : List Int) (k : Nat), vs = [.ref a, .int (k : Int)] ∧ SqL K H a (ns.map V.int) ∧ Q (.int (cell ns k)) H
theorem ok_Lcell_at (T : Txt K mg) : FnOk P w K mg base CX0 1 T.a_Lcell_at T.d_Lcell_at p_Lcell_at (sp_Lcell_at K) := by
  refine T.F_Lcell_at.ok sc_Lcell_at (fun vs H Q E h => ?_) (fun cdv A outer s H vs Q E hr h => ?_)
  · obtain ⟨_, _, _, rfl, _⟩ := h
    rfl
  · obtain ⟨a, ns, k, rfl, hS, q⟩ := h
    refine ⟨_, pss_cons (ps_if (pt_cmpR op_lt (pv 1) (pe_callB call_len_seq (by rfl) T.z_len PySem.boot_len (pa_cons (pv 0) pa_nil)) (nomark _)) (pss_one (ps_ret (pe_ix ix_list (pv 0) (pv 1) (fun _ _ => rfl)))) pss_nil)
      (pss_one (ps_ret pe_int)), ?_⟩
    refine ⟨.int k, rfl, .ref a, rfl, a, ns.map V.int, rfl, .inl hS, _, _, rfl, rfl, _, rfl, ite2 (fun c => ?_) (fun c => ?_)⟩
    · have c' : (k : Int) < ((ns.map V.int).length : Int) := of_decide_eq_true c
      rw [List.length_map] at c'
      have hk : k < ns.length := by omega
      have g : (ns.map V.int)[k]? = some (.int ns[k]) := by
        rw [List.getElem?_map, List.getElem?_eq_getElem hk]
        rfl
      refine ⟨.ref a, rfl, .int k, rfl, a, _, (k : Int), .int ns[k], rfl, rfl, hS, atI_nat g, ?_⟩
      have e : cell ns k = ns[k] := by simp [cell, List.getD, hk]
      rw [e] at q
      exact q
    · have c' : ¬ (k : Int) < ((ns.map V.int).length : Int) := fun z => c (decide_eq_true z)
      rw [List.length_map] at c'
      have hk : ns.length ≤ k := by omega
      have e : cell ns k = 0 := by simp [cell, List.getD, hk]
      rw [e] at q
      exact q
/-! ### the law's mixed -/
def mixA (c : Int) : Int := (c % 1000000007 + 1) * 48271 % 2147483647
def mixd (c k : Int) : Int := mixA c * (16807 + 7919 * k * k + 31 * k) % 2147483629 / 7
theorem mixA_b (c : Int) : 0 ≤ mixA c ∧ mixA c < 2147483647 := ⟨Int.emod_nonneg _ (by decide), Int.emod_lt_of_pos _ (by decide)⟩
theorem mixd_b (c k : Int) : 0 ≤ mixd c k ∧ mixd c k < 2147483629 := by
  have h1 := Int.emod_nonneg (mixA c * (16807 + 7919 * k * k + 31 * k)) (show (2147483629 : Int) ≠ 0 by decide)
  have h2 := Int.emod_lt_of_pos (mixA c * (16807 + 7919 * k * k + 31 * k)) (show (0 : Int) < 2147483629 by decide)
  unfold mixd
  omega
def sp_Lmixed (K : PySem.W.Frag) : Sp := fun vs H Q _ => ∃ c k : Int, vs = [.int c, .int k] ∧ 0 ≤ k ∧ k ≤ 1000 ∧ Q (.int (mixd c k)) H
theorem ok_Lmixed (T : Txt K mg) : FnOk P w K mg base CX0 1 T.a_Lmixed T.d_Lmixed p_Lmixed (sp_Lmixed K) := by
  refine T.F_Lmixed.ok sc_Lmixed (fun vs H Q E h => ?_) (fun cdv A outer s H vs Q E hr h => ?_)
  · obtain ⟨_, _, rfl, _⟩ := h
    rfl
  · obtain ⟨c, k, rfl, h0, h1, q⟩ := h
    refine ⟨_, pss_cons (ps_set (i := 2) sc_Lmixed.nd rfl (.inl rfl) (pe_op op_mod (pe_op op_mul (pe_op op_add (pe_op op_mod (pv 0) pe_int) pe_int) pe_int) pe_int))
      (pss_one (ps_ret (pe_op op_fdiv (pe_op op_mod (pe_op op_mul (pv 2) (pe_op op_add (pe_op op_add pe_int (pe_op op_mul (pe_op op_mul pe_int (pv 1)) (pv 1))) (pe_op op_mul pe_int (pv 1)))) pe_int) pe_int))), ?_⟩
    have b1 := Int.emod_nonneg c (show (1000000007 : Int) ≠ 0 by decide)
    have b2 := Int.emod_lt_of_pos c (show (0 : Int) < 1000000007 by decide)
    refine ⟨.int c, rfl, _, _, rfl, rfl, (by show (0 : Int) < 1000000007; decide), _, _, rfl, rfl, _, _, rfl, rfl, .inr (by show -(2 ^ 64 : Int) < 48271 ∧ (48271 : Int) < 2 ^ 64; decide), _, _, rfl, rfl, (by show (0 : Int) < 2147483647; decide), ?_⟩
    have b3 := mixA_b c
    refine ⟨.int (mixA c), rfl, .int k, rfl, _, _, rfl, rfl, .inl (by show -(2 ^ 64 : Int) < 7919 ∧ (7919 : Int) < 2 ^ 64; decide), .int k, rfl, _, _, rfl, rfl, .inr (by show -(2 ^ 64 : Int) < k ∧ k < 2 ^ 64; omega), _, _, rfl, rfl, .int k, rfl, _, _, rfl, rfl, .inl (by show -(2 ^ 64 : Int) < 31 ∧ (31 : Int) < 2 ^ 64; decide),
      _, _, rfl, rfl, _, _, rfl, rfl, .inl (by show -(2 ^ 64 : Int) < mixA c ∧ mixA c < 2 ^ 64; omega), _, _, rfl, rfl, (by show (0 : Int) < 2147483629; decide), _, _, rfl, rfl, ⟨by decide, by decide⟩, ?_⟩
    exact q
/-! ### the law's whole -/
def sp_Lwhole (K : PySem.W.Frag) : Sp := fun vs H Q _ => ∃ x, vs = [x] ∧ Plain K H x ∧ Q (.bl (intV x)) H
theorem ok_Lwhole (T : Txt K mg) : FnOk P w K mg base CX0 1 T.a_Lwhole T.d_Lwhole p_Lwhole (sp_Lwhole K) := by
  refine T.F_Lwhole.ok sc_Lwhole (fun vs H Q E h => ?_) (fun cdv A outer s H vs Q E hr h => ?_)
  · obtain ⟨x, rfl, _⟩ := h
    rfl
  · obtain ⟨x, rfl, ⟨i, b, l, k, e⟩, q⟩ := h
    obtain ⟨t, ty, h1, h2, _⟩ := k.ex
    refine ⟨_, pss_one (ps_ret (pe_and (pe_callB call_isi (by rfl) T.z_isinstance (by decide +kernel) (pa_cons (pv 0) (pa_cons (pe_bltn (v := .ty "int") (by rfl) T.z_int (by decide +kernel) rfl) pa_nil)))
      (pe_one (pe_not (pe_callB call_isi (by rfl) T.z_isinstance (by decide +kernel) (pa_cons (pv 0) (pa_cons (pe_bltn (v := .ty "bool") (by rfl) T.z_bool (by decide +kernel) rfl) pa_nil))))))), ?_⟩
    refine ⟨x, rfl, x, _, t, _, i, rfl, .ty _, ty, h1, i, rfl, ?_⟩
    cases i with
    | true => exact iteT ⟨x, rfl, x, _, t, _, b, rfl, .ty _, ty, h2, b, rfl, by rw [← e] at q; exact q⟩
    | false => exact iteF (by rw [← e] at q; exact q)
/-! ### the law's worth -/
def sp_Lworth (K : PySem.W.Frag) : Sp := fun vs H Q _ => ∃ (a : Addr) (ns : List Int), vs = [.ref a] ∧ SqL K H a (ns.map V.int) ∧ (∀ n ∈ ns, -1 ≤ n ∧ n ≤ 1) ∧ ns.length ≤ 4000000 ∧ Q (.int (val ns)) H
theorem ok_Lworth (T : Txt K mg) : FnOk P w K mg base CX0 1 T.a_Lworth T.d_Lworth p_Lworth (sp_Lworth K) := by
  refine T.F_Lworth.ok sc_Lworth (fun vs H Q E h => ?_) (fun cdv A outer s H vs Q E hr h => ?_)
  · obtain ⟨_, _, rfl, _⟩ := h
    rfl
  · obtain ⟨a, ns, rfl, hS, hb, hl, q⟩ := h
    refine ⟨_, pss_cons (ps_set (i := 1) sc_Lworth.nd rfl (.inl rfl) pe_int) (pss_cons (ps_set (i := 2) sc_Lworth.nd rfl (.inl rfl) pe_int)
      (pss_cons (ps_for PassesOwn.never rfl (pi_list (pv 0)) (pg_name (i := 3) sc_Lworth.nd rfl (.inl rfl))
        (pss_cons (ps_set (i := 1) sc_Lworth.nd rfl (.inl rfl) (pe_op op_add (pv 1) (pe_op op_mul (pv 3) (pv 2))))
        (pss_one (ps_set (i := 2) sc_Lworth.nd rfl (.inl rfl) (pe_op op_mul (pv 2) pe_int)))))
      (pss_one (ps_ret (pv 1))))), ?_⟩
    refine ⟨.ref a, rfl, a, rfl, ⟨_, hS⟩, ?_⟩
    refine for_list (xs := ns.map V.int) (fun i σ H1 => H1 = H ∧ ∃ y, σ = [some (.ref a), some (.int (val (ns.take i))), some (.int (2 ^ i)), y]) ⟨rfl, _, rfl⟩ (fun i σ H1 _ e => by rw [e.1]; exact hS) (fun i x σ H1 hx e => ?_) (fun σ H1 e => ?_)
    · obtain ⟨rfl, y, rfl⟩ := e
      have hi : i < ns.length := by
        have := (List.getElem?_eq_some_iff.mp hx).1
        rwa [List.length_map] at this
      have ex : x = .int ns[i] := by
        rw [List.getElem?_map, List.getElem?_eq_getElem hi] at hx
        exact (Option.some.inj hx).symm
      subst ex
      have hn := hb ns[i] (List.getElem_mem hi)
      refine ⟨_, rfl, _, rfl, _, rfl, _, _, rfl, rfl, .inl (by show -(2 ^ 64 : Int) < ns[i] ∧ ns[i] < 2 ^ 64; omega), _, _, rfl, rfl, ?_⟩
      refine ⟨_, rfl, _, _, rfl, rfl, .inr (by show -(2 ^ 64 : Int) < 2 ∧ (2 : Int) < 2 ^ 64; decide), ?_⟩
      refine ⟨rfl, some (.int ns[i]), ?_⟩
      rw [val_take hi]
      rfl
    · obtain ⟨rfl, y, rfl⟩ := e
      have e2 : ns.take (ns.map V.int).length = ns := by
        rw [List.length_map, List.take_length]
      rw [e2]
      exact ⟨_, rfl, q⟩
/-! ### the law's is_lean, of rows -/
/-- up to a place: of each two neighbours one is 0 -/
def apartTo (ns : List Int) (i : Nat) : Prop := ∀ j, 0 < j → j < i → ns.getD j 0 = 0 ∨ ns.getD (j - 1) 0 = 0
theorem gaps_iff : ∀ ns : List Int, gaps ns = true ↔ apartTo ns ns.length
  | [] => ⟨fun _ j _ h => absurd h (Nat.not_lt_zero _), fun _ => rfl⟩
  | [x] => ⟨fun _ j h0 h => by
      have : j < 1 := h
      omega, fun _ => rfl⟩
  | x :: y :: r => by
    have ih := gaps_iff (y :: r)
    have e : gaps (x :: y :: r) = ((decide (x = 0) || decide (y = 0)) && gaps (y :: r)) := rfl
    rw [e, Bool.and_eq_true, Bool.or_eq_true, decide_eq_true_eq, decide_eq_true_eq]
    constructor
    · rintro ⟨h1, h2⟩ j h0 hj
      match j, h0 with
      | 1, _ => exact h1.symm
      | j + 2, _ =>
        have := ih.mp h2 (j + 1) (by omega) (by simp only [List.length_cons] at hj ⊢; omega)
        exact this
    · intro h
      refine ⟨(h 1 (by omega) (by simp)).symm, ih.mpr fun j h0 hj => ?_⟩
      have := h (j + 1) (by omega) (by simp only [List.length_cons] at hj ⊢; omega)
      match j, h0 with
      | j + 1, _ => exact this
def sp_Lis_lean (K : PySem.W.Frag) : Sp := fun vs H Q _ => ∃ (a : Addr) (ns : List Int), vs = [.ref a] ∧ RowAt K H a ns ∧ ∀ H', Same H H' → Q (.bl (gaps ns)) H'
theorem ok_Lis_lean (T : Txt K mg) : FnOk P w K mg base CX0 2 T.a_Lis_lean T.d_Lis_lean p_Lis_lean (sp_Lis_lean K) := by
  refine T.F_Lis_lean.ok sc_Lis_lean (fun vs H Q E h => ?_) (fun cdv A outer s H vs Q E hr h => ?_)
  · obtain ⟨_, _, rfl, _⟩ := h
    rfl
  · obtain ⟨a, ns, rfl, hS, q⟩ := h
    refine ⟨_, pss_cons (ps_if (PW.pt (pw_or (pt_not (pt_val (pe_callB call_isi (by rfl) T.z_isinstance (by decide +kernel) (pa_cons (pv 0) (pa_cons (pe_bltn (v := .ty "list") (by rfl) T.z_list (by decide +kernel) rfl) pa_nil)))))
          (pw_or1 (pt_cmpR (op_eqD hr.units) (pe_slice sl_list (pv 0) (po_some (pe_un un_neg pe_int)) po_none) (pe_lst (pa_cons pe_int pa_nil)) (nomark _))))) (pss_one (ps_ret pe_bl)) pss_nil)
      (pss_cons (ps_for PassesOwn.never rfl (pi_range1 (by rfl) T.z_range (pa_cons (pe_callB call_len_seq (by rfl) T.z_len PySem.boot_len (pa_cons (pv 0) pa_nil)) pa_nil)) (pg_name (i := 1) sc_Lis_lean.nd rfl (.inl rfl))
        (pss_one (ps_if (PW.pt (pw_or (pt_not (pt_val (pe_call (ok_Lwhole T) hr (by rfl) T.g_Lwhole T.F_Lwhole.kp T.b_Lwhole .nil pass0 (pa_cons (pe_ix ix_list (pv 0) (pv 1) (fun _ _ => rfl)) pa_nil))))
          (pw_or (pt_cmpR op_notIn_seq (pe_ix ix_list (pv 0) (pv 1) (fun _ _ => rfl)) (pe_tup (pa_cons (pe_un un_neg pe_int) (pa_cons pe_int (pa_cons pe_int pa_nil)))) (by rfl))
          (pw_or1 (PW.pt (pw_and (pt_cmpR op_gt (pv 1) pe_int (nomark _)) (pw_and (pt_cmpR op_ne (pe_ix ix_list (pv 0) (pv 1) (fun _ _ => rfl)) pe_int (nomark _))
            (pw_and1 (pt_cmpR op_ne (pe_ix ix_list (pv 0) (pe_op op_sub (pv 1) pe_int) (fun _ _ => rfl)) pe_int (nomark _)))))))))) (pss_one (ps_ret pe_bl)) pss_nil)))
      (pss_one (ps_ret pe_bl))), ?_⟩
    obtain ⟨t, ty, _, _, h3⟩ := (kind_list (K := K) (H := H) hS.1).ex
    refine ⟨.ref a, rfl, .ref a, _, t, _, true, rfl, .ty _, ty, h3, true, rfl, ?_⟩
    refine iteF ?_
    refine ⟨.ref a, rfl, 1, rfl, -1, rfl, a, ns.map V.int, rfl, hS.1, fun c nc => ?_⟩
    have ec := cutLast ns
    rw [ec]
    refine ⟨by decide, fun l nl => ?_⟩
    have s1 : Same H (upd H c (.lst ((ns.drop (ns.length - 1)).map V.int))) := same_upd nc
    have s2 : Same _ (upd (upd H c (.lst ((ns.drop (ns.length - 1)).map V.int))) l (.lst [V.int 0])) := same_upd nl
    refine ⟨dI (ns.drop (ns.length - 1)), dI [0], dp_ints (s2.seq (SqL.of upd_same)), dp_ints (SqL.of upd_same), dI_shaped _, dI_shaped _, _, rfl, ?_⟩
    rw [dI_eqv, decide_eq_false (last_zero hS.2.1.2)]
    refine iteF ?_
    generalize upd (upd H c (.lst ((ns.drop (ns.length - 1)).map V.int))) l (.lst [V.int 0]) = H2 at s2
    have sH := s1.trans s2
    have hA := sH.seq hS.1
    have lm : (ns.map V.int).length = ns.length := List.length_map ..
    have hl := hS.2.2
    refine ⟨.ref a, rfl, a, ns.map V.int, rfl, .inl hA, ((ns.map V.int).length : Int), rfl, by rw [lm]; omega, by rw [lm]; omega, ?_⟩
    rw [lm]
    refine for_range (lo := 0) (n := ns.length) (fun i σ H1 => Same H2 H1 ∧ apartTo ns i ∧ ∃ y, σ = [some (.ref a), y]) ⟨Same.refl _, fun j h0 hj => absurd hj (Nat.not_lt_zero _), _, rfl⟩ (fun i σ H1 hi e => ?_) (fun σ H1 e => ?_)
    · obtain ⟨s3, ap, y, rfl⟩ := e
      have hA3 := s3.seq hA
      have g : (ns.map V.int)[i]? = some (.int ns[i]) := by
        rw [List.getElem?_map, List.getElem?_eq_getElem hi]
        rfl
      have gi : atI (ns.map V.int) (0 + (i : Int)) = some (.int ns[i]) := by
        rw [Int.zero_add]
        exact atI_nat g
      have hn := hS.2.1.1 ns[i] (List.getElem_mem hi)
      have dn : ns.getD i 0 = ns[i] := by simp [List.getD, hi]
      refine ⟨.ref a, rfl, .int (0 + i), rfl, a, _, _, .int ns[i], rfl, rfl, hA3, gi, .int ns[i], rfl, plain_int _, _, rfl, ?_⟩
      refine iteF ?_
      refine ⟨.ref a, rfl, .int (0 + i), rfl, a, _, _, .int ns[i], rfl, rfl, hA3, gi, 1, rfl, by show 3 ≤ sizeLine; decide, fun t nt => ?_⟩
      have s4 : Same H1 (upd H1 t (.tup [.int (-1), .int 0, .int 1])) := same_upd nt
      refine ⟨t, [.int (-1), .int 0, .int 1], rfl, .inr (SqT.of upd_same), rfl, rfl, _, rfl, ?_⟩
      have hin : inV (.int ns[i]) [.int (-1), .int 0, .int 1] = true := by
        have c : ns[i] = -1 ∨ ns[i] = 0 ∨ ns[i] = 1 := by omega
        rcases c with e | e | e <;> rw [e] <;> rfl
      rw [hin]
      refine iteF ?_
      generalize hH4 : upd H1 t (.tup [.int (-1), .int 0, .int 1]) = H4 at s4
      have hA4 := s4.seq hA3
      have next : ∀ H5, Same H4 H5 → (0 < i → ns.getD i 0 = 0 ∨ ns.getD (i - 1) 0 = 0) → Same H2 H5 ∧ apartTo ns (i + 1) ∧ ∃ y, [some (V.ref a), some (V.int (0 + i))] = [some (.ref a), y] := fun H5 s5 hz =>
        ⟨s3.trans (s4.trans s5), fun j h0 hj => by
          by_cases hji : j = i
          · subst hji
            exact hz h0
          · exact ap j h0 (by omega), _, rfl⟩
      refine ⟨.int (0 + i), rfl, _, _, rfl, rfl, _, rfl, ite2 (fun c1 => ?_) (fun c1 => ?_)⟩
      · have i0 : 0 < i := by
          have : (0 + (i : Int)) > 0 := of_decide_eq_true c1
          omega
        have hi1 : i - 1 < ns.length := by omega
        have g1 : (ns.map V.int)[i - 1]? = some (.int ns[i - 1]) := by
          rw [List.getElem?_map, List.getElem?_eq_getElem hi1]
          rfl
        have gi1 : atI (ns.map V.int) (0 + (i : Int) - 1) = some (.int ns[i - 1]) := by
          have : (0 + (i : Int) - 1) = ((i - 1 : Nat) : Int) := by omega
          rw [this]
          exact atI_nat g1
        have dn1 : ns.getD (i - 1) 0 = ns[i - 1] := by simp [List.getD, hi1]
        refine ⟨.ref a, rfl, .int (0 + i), rfl, a, _, _, .int ns[i], rfl, rfl, hA4, gi, rfl, _, rfl, ?_⟩
        by_cases z1 : ns[i] = 0
        · rw [decide_eq_true (show V.int ns[i] = V.int 0 by rw [z1])]
          exact iteF (iteF (next H4 (Same.refl _) fun _ => .inl (by rw [dn, z1])))
        · rw [decide_eq_false (show ¬ V.int ns[i] = V.int 0 from fun z => z1 (V.int.inj z))]
          refine iteT ?_
          refine ⟨.ref a, rfl, .int (0 + i), rfl, _, _, rfl, rfl, a, _, _, .int ns[i - 1], rfl, rfl, hA4, gi1, rfl, _, rfl, ?_⟩
          by_cases z2 : ns[i - 1] = 0
          · rw [decide_eq_true (show V.int ns[i - 1] = V.int 0 by rw [z2])]
            exact iteF (next H4 (Same.refl _) fun _ => .inr (by rw [dn1, z2]))
          · rw [decide_eq_false (show ¬ V.int ns[i - 1] = V.int 0 from fun z => z2 (V.int.inj z))]
            refine iteT ?_
            have no : gaps ns = false := by
              cases hb : gaps ns with
              | false => rfl
              | true =>
                have := (gaps_iff ns).mp hb i i0 hi
                rw [dn, dn1] at this
                rcases this with e | e
                · exact absurd e z1
                · exact absurd e z2
            have q' := q H4 (sH.trans (s3.trans s4))
            rw [no] at q'
            exact q'
      · have i0 : i = 0 := by
          have : ¬ (0 + (i : Int)) > 0 := fun z => c1 (decide_eq_true z)
          omega
        exact iteF (next H4 (Same.refl _) fun z => by omega)
    · obtain ⟨s3, ap, y, rfl⟩ := e
      have yes : gaps ns = true := (gaps_iff ns).mpr ap
      have q' := q H1 (sH.trans s3)
      rw [yes] at q'
      exact q'
/-! ### the law's row -/
def sp_Lrow (K : PySem.W.Frag) : Sp := fun vs H Q _ => ∃ (a : Addr) (ns : List Int), vs = [.ref a] ∧ SqL K H a (ns.map V.int) ∧ ns.length ≤ 63 ∧
  ∀ H' p rs, Same H H' → H p = none → Row rs → rs ≠ [] → rs.length ≤ 64 → H' p = some (.lst (rs.map V.int)) → Q (.ref p) H'
theorem ok_Lrow (T : Txt K mg) : FnOk P w K mg base CX0 2 T.a_Lrow T.d_Lrow p_Lrow (sp_Lrow K) := by
  refine T.F_Lrow.ok sc_Lrow (fun vs H Q E h => ?_) (fun cdv A outer s H vs Q E hr h => ?_)
  · obtain ⟨_, _, rfl, _⟩ := h
    rfl
  · obtain ⟨a, ns, rfl, hS, hl, q⟩ := h
    refine ⟨_, pss_cons (ps_set (i := 1) sc_Lrow.nd rfl (.inl rfl) (pe_lst pa_nil))
      (pss_cons (ps_for PassesOwn.never rfl (pi_enum (by rfl) T.z_enumerate (pa_cons (pv 0) pa_nil)) (pg_tup rfl (pgs_cons (pg_name (i := 2) sc_Lrow.nd rfl (.inl rfl)) (pgs_cons (pg_name (i := 3) sc_Lrow.nd rfl (.inl rfl)) pgs_nil)))
        (pss_cons (ps_set (i := 4) sc_Lrow.nd rfl (.inl rfl) (pe_call (ok_Lmixed T) hr (by rfl) T.g_Lmixed T.F_Lmixed.kp T.b_Lmixed .nil pass0 (pa_cons (pv 3) (pa_cons (pe_op op_mod (pv 2) pe_int) pa_nil))))
        (pss_cons (ps_set (i := 5) sc_Lrow.nd rfl (.inl rfl) (pe_op op_sub (pe_op op_mod (pv 4) pe_int) pe_int))
        (pss_one (ps_expr (pe_bm PySem.F.plainAttrs_list PySem.F.slot_list_append PySem.F.type_list_append mt_append (pv 1) (pa_cons
          (pe_ix ix_list (pe_lst (pa_cons (pv 5) (pa_cons (pe_op op_mul (pv 5) (pe_op op_mod (pe_op op_fdiv (pv 4) pe_int) pe_int)) (pa_cons (pe_op op_mod (pe_op op_fdiv (pv 4) pe_int) pe_int) pa_nil))))
            (pe_op op_mod (pe_call (ok_Lcell_at T) hr (by rfl) T.g_Lcell_at T.F_Lcell_at.kp T.b_Lcell_at .nil pass0 (pa_cons (pv 0) (pa_cons pe_int pa_nil))) pe_int) (fun _ _ => rfl)) pa_nil)))))))
      (pss_one (ps_ret (pe_op op_cat (pv 1) (pe_lst (pa_cons (pe_op op_sub pe_int (pe_op op_mul pe_int (pe_op op_mod (pe_call (ok_Lcell_at T) hr (by rfl) T.g_Lcell_at T.F_Lcell_at.kp T.b_Lcell_at .nil pass0 (pa_cons (pv 0) (pa_cons pe_int pa_nil))) pe_int))) pa_nil)))))), ?_⟩
    refine ⟨Nat.zero_le _, fun o no => ?_⟩
    have s1 : Same H (upd H o (.lst [])) := same_upd no
    refine ⟨.ref a, rfl, a, ns.map V.int, rfl, s1.seq hS, ?_⟩
    refine for_enum (xs := ns.map V.int) (fun i σ H1 => ∃ rs : List Int, (∀ r ∈ rs, -1 ≤ r ∧ r ≤ 1) ∧ rs.length = i ∧ Same H H1 ∧ H1 o = some (.lst (rs.map V.int)) ∧ ∃ y2 y3 y4 y5, σ = [some (.ref a), some (.ref o), y2, y3, y4, y5])
      ⟨[], (fun _ hr => nomatch hr), rfl, s1, upd_same, _, _, _, _, rfl⟩ (fun i σ H1 e => ?_) (fun i x t σ H1 hx e nt => ?_) (fun σ H1 e => ?_)
    · obtain ⟨_, _, _, s2, _⟩ := e
      exact s2.seq hS
    · obtain ⟨rs, hb, hi, s2, eo, y2, y3, y4, y5, rfl⟩ := e
      have hlt : i < ns.length := by
        have := (List.getElem?_eq_some_iff.mp hx).1
        rwa [List.length_map] at this
      have ex : x = .int ns[i] := by
        rw [List.getElem?_map, List.getElem?_eq_getElem hlt] at hx
        exact (Option.some.inj hx).symm
      subst ex
      have sT : Same H1 (upd H1 t (.tup [.int ((i : Nat) : Int), .int ns[i]])) := same_upd nt
      have eo1 := sT _ _ eo
      refine ⟨t, _, rfl, SqT.of upd_same, rfl, _, _, rfl, _, _, rfl, rfl, ?_⟩
      generalize upd H1 t (.tup [.int ((i : Nat) : Int), .int ns[i]]) = H2 at sT eo1
      have s3 := s2.trans sT
      refine ⟨.int ns[i], rfl, .int i, rfl, _, _, rfl, rfl, (by show (0 : Int) < 64; decide), ns[i], (i : Int) % 64, rfl, Int.emod_nonneg _ (by decide), by omega, ?_⟩
      obtain ⟨m0, m1⟩ := mixd_b ns[i] ((i : Int) % 64)
      generalize mixd ns[i] ((i : Int) % 64) = M at m0 m1
      refine ⟨.int M, rfl, _, _, rfl, rfl, (by show (0 : Int) < 3; decide), _, _, rfl, rfl, ?_⟩
      refine ⟨.ref o, rfl, .inl ⟨rfl, _, SqL.of eo1⟩, .int (M % 3 - 1), rfl, .int (M % 3 - 1), rfl, .int M, rfl, _, _, rfl, rfl, ⟨by decide, by decide⟩, _, _, rfl, rfl, (by show (0 : Int) < 2; decide), _, _, rfl, rfl, .inl (by show -(2 ^ 64 : Int) < M % 3 - 1 ∧ M % 3 - 1 < 2 ^ 64; omega),
        .int M, rfl, _, _, rfl, rfl, ⟨by decide, by decide⟩, _, _, rfl, rfl, (by show (0 : Int) < 2; decide), (by show 3 ≤ sizeLine; decide), fun l nl => ?_⟩
      have sL : Same H2 (upd H2 l (.lst [.int (M % 3 - 1), .int ((M % 3 - 1) * (M / 3 % 2)), .int (M / 7 % 2)])) := same_upd nl
      have eo2 := sL _ _ eo1
      have eL : (upd H2 l (.lst [.int (M % 3 - 1), .int ((M % 3 - 1) * (M / 3 % 2)), .int (M / 7 % 2)])) l = some (.lst ([M % 3 - 1, (M % 3 - 1) * (M / 3 % 2), M / 7 % 2].map V.int)) := upd_same
      generalize upd H2 l (.lst [.int (M % 3 - 1), .int ((M % 3 - 1) * (M / 3 % 2)), .int (M / 7 % 2)]) = H3 at sL eo2 eL
      have s4 := s3.trans sL
      refine ⟨.ref a, rfl, a, ns, 0, rfl, s4.seq hS, _, _, rfl, rfl, (by show (0 : Int) < 3; decide), ?_⟩
      have c0 := Int.emod_nonneg (cell ns 0) (show (3 : Int) ≠ 0 by decide)
      have c1 := Int.emod_lt_of_pos (cell ns 0) (show (0 : Int) < 3 by decide)
      have fin : ∃ z : Int, -1 ≤ z ∧ z ≤ 1 ∧ atI ([M % 3 - 1, (M % 3 - 1) * (M / 3 % 2), M / 7 % 2].map V.int) (cell ns 0 % 3) = some (.int z) := by
        have cc : cell ns 0 % 3 = ((0 : Nat) : Int) ∨ cell ns 0 % 3 = ((1 : Nat) : Int) ∨ cell ns 0 % 3 = ((2 : Nat) : Int) := by omega
        rcases cc with e | e | e <;> rw [e]
        · exact ⟨M % 3 - 1, by omega, by omega, atI_nat rfl⟩
        · refine ⟨(M % 3 - 1) * (M / 3 % 2), ?_, ?_, atI_nat rfl⟩
          all_goals
            have h2 : M / 3 % 2 = 0 ∨ M / 3 % 2 = 1 := by omega
            rcases h2 with h | h <;> rw [h] <;> omega
        · exact ⟨M / 7 % 2, by omega, by omega, atI_nat rfl⟩
      obtain ⟨z, z0, z1, hz⟩ := fin
      refine ⟨l, _, cell ns 0 % 3, .int z, rfl, rfl, SqL.of eL, hz, o, _, _, rfl, rfl, eo2, ?_, ?_⟩
      · rw [List.length_map]
        exact small1000 (by omega)
      · refine ⟨rs ++ [z], fun r hr => ?_, by simp [hi], fun b u e => ?_, ?_, _, _, _, _, rfl⟩
        · rcases List.mem_append.mp hr with h | h
          · exact hb r h
          · rw [List.mem_singleton.mp h]
            exact ⟨z0, z1⟩
        · have nb : b ≠ o := ne_of_none e no
          rw [upd_ne nb]
          exact s4 _ _ e
        · rw [upd_same, List.map_append]
          rfl
    · obtain ⟨rs, hb, hi, s2, eo, y2, y3, y4, y5, rfl⟩ := e
      have c0 := Int.emod_nonneg (cell ns 1) (show (2 : Int) ≠ 0 by decide)
      have c1 := Int.emod_lt_of_pos (cell ns 1) (show (0 : Int) < 2 by decide)
      refine ⟨.ref o, rfl, .ref a, rfl, a, ns, 1, rfl, s2.seq hS, _, _, rfl, rfl, (by show (0 : Int) < 2; decide), _, _, rfl, rfl, .inl (by show -(2 ^ 64 : Int) < 2 ∧ (2 : Int) < 2 ^ 64; decide), _, _, rfl, rfl, (by show 1 ≤ sizeLine; decide), fun l nl => ?_⟩
      have sL : Same H1 (upd H1 l (.lst [.int (1 - 2 * (cell ns 1 % 2))])) := same_upd nl
      rw [List.length_map] at hi
      refine ⟨o, l, _, _, rfl, rfl, sL _ _ eo, upd_same, ?_, fun p np => ?_⟩
      · rw [List.length_map]
        show rs.length + 1 ≤ sizeLine
        have : (64 : Nat) ≤ sizeLine := by decide
        omega
      · have s5 := sL.trans (same_upd (o := .lst (rs.map V.int ++ [.int (1 - 2 * (cell ns 1 % 2))])) np)
        have hp : H p = none := by
          cases e : H p with
          | none => rfl
          | some u =>
            have := sL _ _ (s2 _ _ e)
            rw [np] at this
            exact nomatch this
        refine q _ p (rs ++ [1 - 2 * (cell ns 1 % 2)]) (s2.trans s5) hp ⟨fun r hr => ?_, ?_⟩ (by simp) (by simp; omega) ?_
        · rcases List.mem_append.mp hr with h | h
          · exact hb r h
          · rw [List.mem_singleton.mp h]
            omega
        · rw [List.getLast?_append]
          simp
          omega
        · rw [upd_same, List.map_append]
          rfl
/-! ### the law's right -/
theorem count_filter : ∀ ns : List Int, (((ns.filter fun n => !decide (n = 0)).length : Nat) : Int) = (ns.length : Int) - ((ns.count 0 : Nat) : Int)
  | [] => rfl
  | n :: r => by
    have ih := count_filter r
    by_cases h : n = 0
    · subst h
      rw [List.filter_cons_of_neg (by simp), List.count_cons_self, List.length_cons]
      omega
    · rw [List.filter_cons_of_pos (by simp [h]), List.count_cons_of_ne (by simpa using h), List.length_cons, List.length_cons]
      omega
def sp_Lright (K : PySem.W.Frag) : Sp := fun vs H Q _ => ∃ (a : Addr) (ns : List Int), vs = [.ref a] ∧ RowAt K H a ns ∧ ∀ H', Same H H' → Q (.bl true) H'
theorem ok_Lright (T : Txt K mg) : FnOk P w K mg base CX0 6 T.a_Lright T.d_Lright p_Lright (sp_Lright K) := by
  refine T.F_Lright.ok sc_Lright (fun vs H Q E h => ?_) (fun cdv A outer s H vs Q E hr h => ?_)
  · obtain ⟨_, _, rfl, _⟩ := h
    rfl
  · obtain ⟨a, ns, rfl, hS, q⟩ := h
    have hr5 : Room 5 _ := hr
    refine ⟨_, pss_cons (ps_set (i := 1) sc_Lright.nd rfl (.inl rfl) (pe_callTy call_list_of (by rfl) T.z_list (by decide +kernel) (pa_cons (pv 0) pa_nil)))
      (pss_cons (ps_set (i := 2) sc_Lright.nd rfl (.inl rfl) (pe_callB call_len_seq (by rfl) T.z_len PySem.boot_len (pa_cons (pe_lc (own := [("_law_figure", 5)]) (g := gName 5) (by rfl) sc_Lright.nd (pi_list (pv 0))
          (blkOk_by (N := ["_law_row_here", "_law_handed", "_law_due", "_law_turn", "_law_found", "_law_figure"]) (own := [("_law_figure", 5)]) (sc := defScope t_Lright) (by decide +kernel))
          (fun _ _ _ _ _ => pg_name (i := 5) sc_Lright.nd rfl (Or.inl rfl)) (fun _ _ _ _ _ => pts_one (pt_cmpR op_ne (pv 5) pe_int (nomark _))) (fun _ _ _ _ _ => pv 5)) pa_nil)))
      (pss_cons (ps_for PassesOwn.never rfl (pi_range1 (by rfl) T.z_range (pa_cons pe_int pa_nil)) (pg_name (i := 3) sc_Lright.nd rfl (.inl rfl))
        (pss_cons (ps_set (i := 4) sc_Lright.nd rfl (.inl rfl) (pe_call (ok_is_lean T) hr (by rfl) T.g_is_lean T.F_is_lean.kp T.b_is_lean .nil pass0 (pa_cons (pv 1) pa_nil)))
        (pss_cons (ps_if (PW.pt (pw_or (pt_cmpR op_isnot_bl (pe_call (ok_is_row T) (hr.mono (by decide)) (by rfl) T.g_is_row T.F_is_row.kp T.b_is_row .nil pass0 (pa_cons (pv 1) pa_nil)) pe_bl (nomark _))
          (pw_or (pt_not (pt_val (pe_callB call_isi (by rfl) T.z_isinstance (by decide +kernel) (pa_cons (pv 4) (pa_cons (pe_bltn (v := .ty "bool") (by rfl) T.z_bool (by decide +kernel) rfl) pa_nil)))))
          (pw_or1 (pt_cmpR op_ne (pv 4) (pe_call (ok_Lis_lean T) (hr.mono (by decide)) (by rfl) T.g_Lis_lean T.F_Lis_lean.kp T.b_Lis_lean .nil pass0 (pa_cons (pv 0) pa_nil)) (nomark _)))))) (pss_one (ps_ret pe_bl)) pss_nil)
        (pss_cons (ps_if (PW.pt (pw_or (pt_not (pt_val (pe_call (ok_Lwhole T) (hr.mono (by decide)) (by rfl) T.g_Lwhole T.F_Lwhole.kp T.b_Lwhole .nil pass0 (pa_cons (pe_call (ok_worth T) hr (by rfl) T.g_worth T.F_worth.kp T.b_worth .nil pass0 (pa_cons (pv 1) pa_nil)) pa_nil))))
          (pw_or1 (pt_cmpR op_ne (pe_call (ok_worth T) hr (by rfl) T.g_worth T.F_worth.kp T.b_worth .nil pass0 (pa_cons (pv 1) pa_nil)) (pe_call (ok_Lworth T) (hr.mono (by decide)) (by rfl) T.g_Lworth T.F_Lworth.kp T.b_Lworth .nil pass0 (pa_cons (pv 0) pa_nil)) (nomark _))))) (pss_one (ps_ret pe_bl)) pss_nil)
        (pss_one (ps_if (PW.pt (pw_or (pt_not (pt_val (pe_call (ok_Lwhole T) (hr.mono (by decide)) (by rfl) T.g_Lwhole T.F_Lwhole.kp T.b_Lwhole .nil pass0 (pa_cons (pe_call (ok_weight T) hr (by rfl) T.g_weight T.F_weight.kp T.b_weight .nil pass0 (pa_cons (pv 1) pa_nil)) pa_nil))))
          (pw_or (pt_cmpR op_ne (pe_call (ok_weight T) hr (by rfl) T.g_weight T.F_weight.kp T.b_weight .nil pass0 (pa_cons (pv 1) pa_nil)) (pv 2) (nomark _))
          (pw_or1 (pt_cmpR (op_neD hr.units) (pv 1) (pv 0) (nomark _)))))) (pss_one (ps_ret pe_bl)) pss_nil))))))
      (pss_one (ps_ret pe_bl)))), ?_⟩
    refine ⟨.ref a, rfl, a, ns.map V.int, rfl, .inl hS.1, fun l nl => ?_⟩
    have s1 : Same H (upd H l (.lst (ns.map V.int))) := same_upd nl
    have eL : (upd H l (.lst (ns.map V.int))) l = some (.lst (ns.map V.int)) := upd_same
    generalize upd H l (.lst (ns.map V.int)) = H1 at s1 eL
    have rA1 := hS.mono s1
    refine ⟨.ref a, rfl, a, rfl, ⟨_, rA1.1⟩, fun D nD => ?_⟩
    have sD : ∀ ys, Same H1 (upd H1 D (.lst ys)) := fun ys => same_upd nD
    refine lc_list (K := K) (a := a) (xs := ns.map V.int) (fun i H2 => H2 = upd H1 D (.lst (((ns.take i).filter fun n => !decide (n = 0)).map V.int))) rfl (fun i H2 _ e => by rw [e]; exact (sD _).seq rA1.1) (fun i x H2 hx e => ?_) (fun H2 e => ?_)
    · subst e
      have hlt : i < ns.length := by
        have := (List.getElem?_eq_some_iff.mp hx).1
        rwa [List.length_map] at this
      have ex : x = .int ns[i] := by
        rw [List.getElem?_map, List.getElem?_eq_getElem hlt] at hx
        exact (Option.some.inj hx).symm
      subst ex
      have et : ns.take (i + 1) = ns.take i ++ [ns[i]] := by
        rw [List.take_add_one, List.getElem?_eq_getElem hlt]
        rfl
      refine ⟨rfl, .int ns[i], rfl, rfl, _, rfl, ?_⟩
      by_cases h0 : ns[i] = 0
      · rw [decide_eq_true (show V.int ns[i] = V.int 0 by rw [h0])]
        refine iteF ?_
        rw [et, List.filter_append, List.filter_cons_of_neg (by simp [h0])]
        simp
      · rw [decide_eq_false (show ¬ V.int ns[i] = V.int 0 from fun z => h0 (V.int.inj z))]
        refine iteT ⟨.int ns[i], rfl, _, upd_same, ?_, ?_⟩
        · rw [List.length_map]
          have h1 := List.length_filter_le (fun n => !decide (n = 0)) (ns.take i)
          have h2 : (ns.take i).length ≤ ns.length := by
            rw [List.length_take]
            omega
          have h3 : ns.length < sizeLine := Nat.lt_of_le_of_lt hS.2.2 (by decide)
          omega
        · rw [upd_upd, et, List.filter_append, List.filter_cons_of_pos (by simp [h0]), List.map_append]
          rfl
    · subst e
      have et : ns.take (ns.map V.int).length = ns := by rw [List.length_map, List.take_length]
      rw [et]
      have s2 := s1.trans (sD ((ns.filter fun n => !decide (n = 0)).map V.int))
      have eL2 := sD ((ns.filter fun n => !decide (n = 0)).map V.int) _ _ eL
      refine ⟨D, _, rfl, .inl (SqL.of upd_same), ?_⟩
      rw [List.length_map, count_filter]
      generalize hH2 : upd H1 D (.lst ((ns.filter fun n => !decide (n = 0)).map V.int)) = H2 at s2 eL2
      generalize hdue : (ns.length : Int) - ((ns.count 0 : Nat) : Int) = due
      have rA := hS.mono s2
      have rL : RowAt K H2 l ns := ⟨SqL.of eL2, hS.2⟩
      refine ⟨2, rfl, by decide, by decide, ?_⟩
      refine for_range (lo := 0) (n := 2) (fun i σ H3 => Same H2 H3 ∧ ∃ y3 y4 y5, σ = [some (.ref a), some (.ref l), some (.int due), y3, y4, y5]) ⟨Same.refl _, _, _, _, rfl⟩ (fun i σ H3 hi e => ?_) (fun σ H3 e => ?_)
      · obtain ⟨s3, y3, y4, y5, rfl⟩ := e
        refine ⟨.ref l, rfl, l, ns, rfl, rL.mono s3, fun H4 s4 => ?_⟩
        have t4 := s3.trans s4
        refine ⟨.ref l, rfl, .ref l, rfl, .inr ⟨l, ns.map V.int, rfl, (rL.mono t4).1, RowAt.plain, by rw [List.length_map]; exact hS.2.2, fun H5 s5 => ?_⟩⟩
        have t5 := t4.trans s5
        refine ⟨_, true, rfl, rfl, _, rfl, ?_⟩
        rw [row_yes hS.2.1]
        refine iteF ?_
        obtain ⟨t, ty, _, h2, _⟩ := (kind_bl (K := K) (H := H5) (gaps ns)).ex
        refine ⟨.bl (gaps ns), rfl, .bl (gaps ns), _, t, _, true, rfl, .ty _, ty, h2, true, rfl, ?_⟩
        refine iteF ?_
        refine ⟨.bl (gaps ns), rfl, .ref a, rfl, a, ns, rfl, rA.mono t5, fun H6 s6 => ?_⟩
        have t6 := t5.trans s6
        refine ⟨rfl, _, rfl, ?_⟩
        rw [decide_eq_true rfl]
        refine iteF ?_
        -- the worth
        refine ⟨.ref l, rfl, l, ns, rfl, rL.mono t6, fun H7 s7 => ?_⟩
        have t7 := t6.trans s7
        refine ⟨.int (val ns), rfl, plain_int _, _, rfl, ?_⟩
        refine iteF ?_
        refine ⟨.ref l, rfl, l, ns, rfl, rL.mono t7, fun H8 s8 => ?_⟩
        have t8 := t7.trans s8
        refine ⟨.ref a, rfl, a, ns, rfl, (rA.mono t8).1, hS.2.1.1, hS.2.2, ?_⟩
        refine ⟨rfl, _, rfl, ?_⟩
        rw [decide_eq_true rfl]
        refine iteF ?_
        -- the weight
        refine ⟨.ref l, rfl, l, ns, rfl, rL.mono t8, fun H9 s9 => ?_⟩
        have t9 := t8.trans s9
        rw [hdue]
        refine ⟨.int due, rfl, plain_int _, _, rfl, ?_⟩
        refine iteF ?_
        refine ⟨.ref l, rfl, l, ns, rfl, rL.mono t9, fun H10 s10 => ?_⟩
        have t10 := t9.trans s10
        rw [hdue]
        refine ⟨.int due, rfl, rfl, _, rfl, ?_⟩
        rw [decide_eq_true rfl]
        refine iteF ?_
        refine ⟨.ref l, rfl, .ref a, rfl, dI ns, dI ns, dp_ints (rL.mono t10).1, dp_ints (rA.mono t10).1, dI_shaped _, dI_shaped _, _, rfl, ?_⟩
        rw [dI_eqv, decide_eq_true rfl]
        exact iteF ⟨t10, _, _, _, rfl⟩
      · obtain ⟨s3, y3, y4, y5, rfl⟩ := e
        exact q _ (s2.trans s3)
/-! ### the law's others: things that are no rows -/
/-- a thing that is no row -/
def NR (K : PySem.W.Frag) (H : Hp) (x : V) : Prop := (∃ i b, Kind K H x i b false) ∨ ∃ a xs, x = .ref a ∧ SqL K H a xs ∧ (∀ y ∈ xs, Plain K H y) ∧ xs.length ≤ 4000000 ∧ rowB xs = false
theorem NR.mono {K : PySem.W.Frag} {H H' : Hp} {x : V} (h : NR K H x) (s : Same H H') : NR K H' x := by
  rcases h with ⟨i, b, k⟩ | ⟨a, xs, e, hq, hp, hl, hb⟩
  · exact .inl ⟨i, b, k.mono s⟩
  · exact .inr ⟨a, xs, e, s.seq hq, fun y hy => (hp y hy).mono s, hl, hb⟩
theorem rowB_odd {xs : List V} {v : V} (h : v ∈ xs) (f : figV v = false) : rowB xs = false := by
  unfold rowB
  have : xs.all figV = false := by
    rw [List.all_eq_false]
    exact ⟨v, h, by rw [f]; exact Bool.false_ne_true⟩
  rw [this]
  rfl
theorem rowB_zero (xs : List V) : rowB (xs ++ [.int 0]) = false := by
  unfold rowB
  simp
/-- no figure, of a known kind -/
def Odd (K : PySem.W.Frag) (H : Hp) (v : V) : Prop := Plain K H v ∧ figV v = false
theorem Odd.mono {K : PySem.W.Frag} {H H' : Hp} {v : V} (h : Odd K H v) (s : Same H H') : Odd K H' v := ⟨h.1.mono s, h.2⟩
theorem none_before {H H' : Hp} {p : Addr} (s : Same H H') (h : H' p = none) : H p = none := by
  cases e : H p with
  | none => rfl
  | some u =>
    have := s _ _ e
    rw [h] at this
    exact nomatch this
def sp_Lothers (K : PySem.W.Frag) : Sp := fun vs H Q _ => ∃ (a : Addr) (ns : List Int) (c : Int), vs = [.ref a, .int c] ∧ H a = some (.lst (ns.map V.int)) ∧ ns ≠ [] ∧ ns.length ≤ 64 ∧ 0 ≤ c ∧ c < 2147483629 ∧
  ∀ H' p x y z, Same H H' → H p = none → H' p = some (.lst [x, y, z]) → NR K H' x → NR K H' y → NR K H' z → Q (.ref p) H'
theorem ok_Lothers (T : Txt K mg) : FnOk P w K mg base CX0 1 T.a_Lothers T.d_Lothers p_Lothers (sp_Lothers K) := by
  refine T.F_Lothers.ok sc_Lothers (fun vs H Q E h => ?_) (fun cdv A outer s H vs Q E hr h => ?_)
  · obtain ⟨_, _, _, rfl, _⟩ := h
    rfl
  · obtain ⟨a, ns, c, rfl, ha, hne, hl, c0, c1, q⟩ := h
    refine ⟨_, pss_cons (ps_set (i := 2) sc_Lothers.nd rfl (.inl rfl) (pe_op op_mod (pv 1) (pe_callB call_len_seq (by rfl) T.z_len PySem.boot_len (pa_cons (pv 0) pa_nil))))
      (pss_cons (ps_set (i := 3) sc_Lothers.nd rfl (.inl rfl) (pe_ix ix_list (pe_lst (pa_cons pe_int (pa_cons (pe_un un_neg pe_int) (pa_cons pe_bl (pa_cons pe_bl (pa_cons pe_non (pa_cons pe_str (pa_cons (pe_lst (pa_cons pe_int pa_nil)) (pa_cons (pe_tup (pa_cons pe_int pa_nil)) pa_nil)))))))))
        (pe_op op_mod (pe_op op_fdiv (pv 1) pe_int) pe_int) (fun _ _ => rfl)))
      (pss_cons (ps_set (i := 4) sc_Lothers.nd rfl (.inl rfl) (pe_lst (pa_cons (pe_op op_cat (pv 0) (pe_lst (pa_cons pe_int pa_nil)))
        (pa_cons (pe_op op_cat (pe_op op_cat (pe_slice sl_list (pv 0) po_none (po_some (pv 2))) (pe_lst (pa_cons (pv 3) pa_nil))) (pe_slice sl_list (pv 0) (po_some (pe_op op_add (pv 2) pe_int)) po_none))
        (pa_cons (pe_callTy call_tuple_of (by rfl) T.z_tuple (by decide +kernel) (pa_cons (pv 0) pa_nil))
        (pa_cons pe_non (pa_cons pe_int (pa_cons pe_str (pa_cons pe_dnewK (pa_cons pe_bl (pa_cons (pe_lst (pa_cons (pv 3) pa_nil)) (pa_cons (pe_lst (pa_cons (pe_lst pa_nil) pa_nil)) pa_nil))))))))))))
      (pss_one (ps_ret (pe_lst (pa_cons (pe_ix ix_list (pv 4) pe_int (fun _ _ => rfl)) (pa_cons (pe_ix ix_list (pv 4) pe_int (fun _ _ => rfl))
        (pa_cons (pe_ix ix_list (pv 4) (pe_op op_add pe_int (pe_op op_mod (pe_op op_fdiv (pv 1) pe_int) pe_int)) (fun _ _ => rfl)) pa_nil)))))))), ?_⟩
    have hl0 : 0 < ns.length := by
      cases ns with
      | nil => exact absurd rfl hne
      | cons n r => exact Nat.succ_pos _
    have lm : (ns.map V.int).length = ns.length := List.length_map ..
    refine ⟨.int c, rfl, .ref a, rfl, a, ns.map V.int, rfl, .inl (SqL.of ha), _, _, rfl, rfl, (by show (0 : Int) < ((ns.map V.int).length : Int); rw [lm]; omega), ?_⟩
    rw [lm]
    -- odd
    refine ⟨2, rfl, (by decide), fun l1 n1 => ⟨(by decide), fun l2 n2 => ⟨small_ok (by simp), fun l3 n3 => ?_⟩⟩⟩
    have s1 : Same H (upd H l1 (.lst [.int 1])) := same_upd n1
    have k1 : SqL K (upd H l1 (.lst [.int 1])) l1 [.int 1] := SqL.of upd_same
    generalize upd H l1 (.lst [.int 1]) = H1 at s1 k1 n2 n3
    have s2 : Same H1 (upd H1 l2 (.tup [.int 0])) := same_upd n2
    have k2 : (upd H1 l2 (.tup [.int 0])) l2 = some (.tup [.int 0]) := upd_same
    generalize upd H1 l2 (.tup [.int 0]) = H2 at s2 k2 n3
    have s3 : Same H2 (upd H2 l3 (.lst [.int 2, .int (-2), .bl true, .bl false, .non, .str "1", .ref l1, .ref l2])) := same_upd n3
    have k3 : SqL K (upd H2 l3 (.lst [.int 2, .int (-2), .bl true, .bl false, .non, .str "1", .ref l1, .ref l2])) l3 [.int 2, .int (-2), .bl true, .bl false, .non, .str "1", .ref l1, .ref l2] := SqL.of upd_same
    generalize upd H2 l3 (.lst [.int 2, .int (-2), .bl true, .bl false, .non, .str "1", .ref l1, .ref l2]) = H3 at s3 k3
    have e0 := Int.emod_nonneg (c / 997) (show (8 : Int) ≠ 0 by decide)
    have e1 := Int.emod_lt_of_pos (c / 997) (show (0 : Int) < 8 by decide)
    have hodd : ∃ v, atI [.int 2, .int (-2), .bl true, .bl false, .non, .str "1", .ref l1, .ref l2] (c / 997 % 8) = some v ∧ Odd K H3 v := by
      have cc : c / 997 % 8 = ((0 : Nat) : Int) ∨ c / 997 % 8 = ((1 : Nat) : Int) ∨ c / 997 % 8 = ((2 : Nat) : Int) ∨ c / 997 % 8 = ((3 : Nat) : Int) ∨ c / 997 % 8 = ((4 : Nat) : Int) ∨ c / 997 % 8 = ((5 : Nat) : Int) ∨ c / 997 % 8 = ((6 : Nat) : Int) ∨ c / 997 % 8 = ((7 : Nat) : Int) := by omega
      rcases cc with e | e | e | e | e | e | e | e <;> rw [e]
      · exact ⟨_, atI_nat rfl, plain_int 2, rfl⟩
      · exact ⟨_, atI_nat rfl, plain_int (-2), rfl⟩
      · exact ⟨_, atI_nat rfl, ⟨_, _, _, kind_bl true, rfl⟩, rfl⟩
      · exact ⟨_, atI_nat rfl, ⟨_, _, _, kind_bl false, rfl⟩, rfl⟩
      · exact ⟨_, atI_nat rfl, ⟨_, _, _, kind_non, rfl⟩, rfl⟩
      · exact ⟨_, atI_nat rfl, ⟨_, _, _, kind_str _, rfl⟩, rfl⟩
      · exact ⟨_, atI_nat rfl, ⟨_, _, _, kind_list ((s2.trans s3).seq k1), rfl⟩, rfl⟩
      · exact ⟨_, atI_nat rfl, ⟨_, _, _, kind_tup (s3 _ _ k2), rfl⟩, rfl⟩
    obtain ⟨v, hv, ov⟩ := hodd
    have t3 := s1.trans (s2.trans s3)
    refine ⟨.int c, rfl, _, _, rfl, rfl, ⟨by decide, by decide⟩, _, _, rfl, rfl, (by show (0 : Int) < 8; decide), l3, _, c / 997 % 8, v, rfl, rfl, k3, hv, ?_⟩
    -- some
    have lim : (1000 : Nat) ≤ sizeLine := by decide
    refine ⟨.ref a, rfl, (by decide), fun m1 g1 => ?_⟩
    have u1 : Same H3 (upd H3 m1 (.lst [.int 0])) := same_upd g1
    have ka := u1 _ _ (t3 _ _ ha)
    have km : (upd H3 m1 (.lst [.int 0])) m1 = some (.lst [.int 0]) := upd_same
    have t4 := t3.trans u1
    have ov4 := ov.mono u1
    generalize upd H3 m1 (.lst [.int 0]) = H4 at ka km t4 ov4
    refine ⟨a, m1, ns.map V.int, [.int 0], rfl, rfl, ka, km, (by rw [lm]; show ns.length + 1 ≤ sizeLine; omega), fun m2 g2 => ?_⟩
    have u2 : Same H4 (upd H4 m2 (.lst (ns.map V.int ++ [.int 0]))) := same_upd g2
    have kb : NR K (upd H4 m2 (.lst (ns.map V.int ++ [.int 0]))) (.ref m2) := .inr ⟨m2, ns.map V.int ++ [.int 0], rfl, SqL.of upd_same, fun y hy => by
      rcases List.mem_append.mp hy with h | h
      · obtain ⟨n, _, rfl⟩ := List.mem_map.mp h
        exact plain_int n
      · rw [List.mem_singleton.mp h]
        exact plain_int 0, by rw [List.length_append, lm]; show ns.length + 1 ≤ 4000000; omega, rowB_zero _⟩
    have t5 := t4.trans u2
    have ov5 := ov4.mono u2
    have ka5 := u2 _ _ ka
    generalize upd H4 m2 (.lst (ns.map V.int ++ [.int 0])) = H5 at u2 kb t5 ov5 ka5
    -- row[:at] + [odd] + row[at + 1:]
    refine ⟨.ref a, rfl, .int (c % (ns.length : Int)), rfl, c % (ns.length : Int), rfl, a, ns.map V.int, rfl, SqL.of ka5, fun m3 g3 => ?_⟩
    have lA := cutV_length (ns.map V.int) none (some (c % (ns.length : Int)))
    have lB := cutV_length (ns.map V.int) (some (c % (ns.length : Int) + 1)) none
    have iA : ∀ y ∈ cutV (ns.map V.int) none (some (c % (ns.length : Int))), ∃ n, y = V.int n := fun y hy => by
      have h := List.mem_of_mem_drop (List.mem_of_mem_take hy)
      obtain ⟨n, _, e⟩ := List.mem_map.mp h
      exact ⟨n, e.symm⟩
    have iB : ∀ y ∈ cutV (ns.map V.int) (some (c % (ns.length : Int) + 1)) none, ∃ n, y = V.int n := fun y hy => by
      have h := List.mem_of_mem_drop (List.mem_of_mem_take hy)
      obtain ⟨n, _, e⟩ := List.mem_map.mp h
      exact ⟨n, e.symm⟩
    generalize cutV (ns.map V.int) none (some (c % (ns.length : Int))) = LA at lA iA
    rw [lm] at lA lB
    have u3 : Same H5 (upd H5 m3 (.lst LA)) := same_upd g3
    have k3' : (upd H5 m3 (.lst LA)) m3 = some (.lst LA) := upd_same
    have t6 := t5.trans u3
    have ov6 := ov5.mono u3
    have ka6 := u3 _ _ ka5
    have kb6 := kb.mono u3
    generalize upd H5 m3 (.lst LA) = H6 at u3 k3' t6 ov6 ka6 kb6
    refine ⟨v, rfl, small_ok (by simp), fun m4 g4 => ?_⟩
    have u4 : Same H6 (upd H6 m4 (.lst [v])) := same_upd g4
    have k4 : (upd H6 m4 (.lst [v])) m4 = some (.lst [v]) := upd_same
    have k3'' := u4 _ _ k3'
    have t7 := t6.trans u4
    have ov7 := ov6.mono u4
    have ka7 := u4 _ _ ka6
    have kb7 := kb6.mono u4
    generalize upd H6 m4 (.lst [v]) = H7 at u4 k4 k3'' t7 ov7 ka7 kb7
    refine ⟨m3, m4, LA, [v], rfl, rfl, k3'', k4, (by show LA.length + 1 ≤ sizeLine; omega), fun m5 g5 => ?_⟩
    have u5 : Same H7 (upd H7 m5 (.lst (LA ++ [v]))) := same_upd g5
    have k5 : (upd H7 m5 (.lst (LA ++ [v]))) m5 = some (.lst (LA ++ [v])) := upd_same
    have t8 := t7.trans u5
    have ov8 := ov7.mono u5
    have ka8 := u5 _ _ ka7
    have kb8 := kb7.mono u5
    generalize upd H7 m5 (.lst (LA ++ [v])) = H8 at u5 k5 t8 ov8 ka8 kb8
    refine ⟨.ref a, rfl, .int (c % (ns.length : Int)), rfl, _, _, rfl, rfl, c % (ns.length : Int) + 1, rfl, a, ns.map V.int, rfl, SqL.of ka8, fun m6 g6 => ?_⟩
    generalize cutV (ns.map V.int) (some (c % (ns.length : Int) + 1)) none = LB at lB iB g6
    have u6 : Same H8 (upd H8 m6 (.lst LB)) := same_upd g6
    have k6 : (upd H8 m6 (.lst LB)) m6 = some (.lst LB) := upd_same
    have k5' := u6 _ _ k5
    have t9 := t8.trans u6
    have ov9 := ov8.mono u6
    have ka9 := u6 _ _ ka8
    have kb9 := kb8.mono u6
    generalize upd H8 m6 (.lst LB) = H9 at u6 k6 k5' t9 ov9 ka9 kb9
    refine ⟨m5, m6, LA ++ [v], LB, rfl, rfl, k5', k6, (by rw [List.length_append]; show LA.length + 1 + LB.length ≤ sizeLine; omega), fun m7 g7 => ?_⟩
    have u7 : Same H9 (upd H9 m7 (.lst (LA ++ [v] ++ LB))) := same_upd g7
    have kc : NR K (upd H9 m7 (.lst (LA ++ [v] ++ LB))) (.ref m7) := .inr ⟨m7, LA ++ [v] ++ LB, rfl, SqL.of upd_same, fun y hy => by
      rcases List.mem_append.mp hy with h | h
      · rcases List.mem_append.mp h with h | h
        · obtain ⟨n, rfl⟩ := iA y h
          exact plain_int n
        · rw [List.mem_singleton.mp h]
          exact (ov9.mono u7).1
      · obtain ⟨n, rfl⟩ := iB y h
        exact plain_int n, by rw [List.length_append, List.length_append]; show LA.length + 1 + LB.length ≤ 4000000; omega, rowB_odd (v := v) (by simp) ov9.2⟩
    have t10 := t9.trans u7
    have ov10 := ov9.mono u7
    have ka10 := u7 _ _ ka9
    have kb10 := kb9.mono u7
    generalize upd H9 m7 (.lst (LA ++ [v] ++ LB)) = H10 at u7 kc t10 ov10 ka10 kb10
    -- tuple(row)
    refine ⟨.ref a, rfl, a, ns.map V.int, rfl, .inl ⟨SqL.of ka10, fun m8 g8 => ?_⟩⟩
    have u8 : Same H10 (upd H10 m8 (.tup (ns.map V.int))) := same_upd g8
    have kd : NR K (upd H10 m8 (.tup (ns.map V.int))) (.ref m8) := .inl ⟨_, _, kind_tup upd_same⟩
    have t11 := t10.trans u8
    have ov11 := ov10.mono u8
    have kb11 := kb10.mono u8
    have kc11 := kc.mono u8
    generalize upd H10 m8 (.tup (ns.map V.int)) = H11 at u8 kd t11 ov11 kb11 kc11
    -- {}
    refine fun m9 g9 => ?_
    have u9 : Same H11 (upd H11 m9 (.dK [])) := same_upd g9
    have ke : NR K (upd H11 m9 (.dK [])) (.ref m9) := .inl ⟨_, _, kind_dict upd_same⟩
    have t12 := t11.trans u9
    have ov12 := ov11.mono u9
    have kb12 := kb11.mono u9
    have kc12 := kc11.mono u9
    have kd12 := kd.mono u9
    generalize upd H11 m9 (.dK []) = H12 at u9 ke t12 ov12 kb12 kc12 kd12
    -- [odd]
    refine ⟨v, rfl, small_ok (by simp), fun m10 g10 => ?_⟩
    have u10 : Same H12 (upd H12 m10 (.lst [v])) := same_upd g10
    have kf : NR K (upd H12 m10 (.lst [v])) (.ref m10) := .inr ⟨m10, [v], rfl, SqL.of upd_same, fun y hy => by
      rw [List.mem_singleton.mp hy]
      exact (ov12.mono u10).1, by simp, rowB_odd (v := v) (by simp) ov12.2⟩
    have t13 := t12.trans u10
    have kb13 := kb12.mono u10
    have kc13 := kc12.mono u10
    have kd13 := kd12.mono u10
    have ke13 := ke.mono u10
    generalize upd H12 m10 (.lst [v]) = H13 at u10 kf t13 kb13 kc13 kd13 ke13
    -- [[]]
    refine ⟨(by decide), fun m11 g11 => ⟨small_ok (by simp), fun m12 g12 => ?_⟩⟩
    have u11 : Same H13 (upd H13 m11 (.lst [])) := same_upd g11
    have kl : SqL K (upd H13 m11 (.lst [])) m11 [] := SqL.of upd_same
    have t14 := t13.trans u11
    generalize upd H13 m11 (.lst []) = H14 at u11 kl t14 g12
    have u12 : Same H14 (upd H14 m12 (.lst [.ref m11])) := same_upd g12
    have kg : NR K (upd H14 m12 (.lst [.ref m11])) (.ref m12) := .inr ⟨m12, [.ref m11], rfl, SqL.of upd_same, fun y hy => by
      rw [List.mem_singleton.mp hy]
      exact ⟨_, _, _, kind_list (u12.seq kl), rfl⟩, by simp, rowB_odd (v := .ref m11) (by simp) rfl⟩
    have t15 := t14.trans u12
    have w15 := u11.trans u12
    have kb15 := kb13.mono w15
    have kc15 := kc13.mono w15
    have kd15 := kd13.mono w15
    have ke15 := ke13.mono w15
    have kf15 := kf.mono w15
    generalize upd H14 m12 (.lst [.ref m11]) = H15 at u12 kg t15 w15 kb15 kc15 kd15 ke15 kf15
    refine ⟨small_ok (by simp), fun m13 g13 => ?_⟩
    have u13 : Same H15 (upd H15 m13 (.lst [.ref m2, .ref m7, .ref m8, .non, .int 5, .str "+", .ref m9, .bl true, .ref m10, .ref m12])) := same_upd g13
    have kz : SqL K (upd H15 m13 (.lst [.ref m2, .ref m7, .ref m8, .non, .int 5, .str "+", .ref m9, .bl true, .ref m10, .ref m12])) m13 [.ref m2, .ref m7, .ref m8, .non, .int 5, .str "+", .ref m9, .bl true, .ref m10, .ref m12] := SqL.of upd_same
    have t16 := t15.trans u13
    have f0 := Int.emod_nonneg (c / 8000) (show (8 : Int) ≠ 0 by decide)
    have f1 := Int.emod_lt_of_pos (c / 8000) (show (0 : Int) < 8 by decide)
    have hpick : ∃ y, atI [.ref m2, .ref m7, .ref m8, .non, .int 5, .str "+", .ref m9, .bl true, .ref m10, .ref m12] (2 + c / 8000 % 8) = some y ∧ NR K (upd H15 m13 (.lst [.ref m2, .ref m7, .ref m8, .non, .int 5, .str "+", .ref m9, .bl true, .ref m10, .ref m12])) y := by
      have cc : 2 + c / 8000 % 8 = ((2 : Nat) : Int) ∨ 2 + c / 8000 % 8 = ((3 : Nat) : Int) ∨ 2 + c / 8000 % 8 = ((4 : Nat) : Int) ∨ 2 + c / 8000 % 8 = ((5 : Nat) : Int) ∨ 2 + c / 8000 % 8 = ((6 : Nat) : Int) ∨ 2 + c / 8000 % 8 = ((7 : Nat) : Int) ∨ 2 + c / 8000 % 8 = ((8 : Nat) : Int) ∨ 2 + c / 8000 % 8 = ((9 : Nat) : Int) := by omega
      rcases cc with e | e | e | e | e | e | e | e <;> rw [e]
      · exact ⟨_, atI_nat rfl, kd15.mono u13⟩
      · exact ⟨_, atI_nat rfl, .inl ⟨_, _, kind_non⟩⟩
      · exact ⟨_, atI_nat rfl, .inl ⟨_, _, kind_int 5⟩⟩
      · exact ⟨_, atI_nat rfl, .inl ⟨_, _, kind_str _⟩⟩
      · exact ⟨_, atI_nat rfl, ke15.mono u13⟩
      · exact ⟨_, atI_nat rfl, .inl ⟨_, _, kind_bl true⟩⟩
      · exact ⟨_, atI_nat rfl, kf15.mono u13⟩
      · exact ⟨_, atI_nat rfl, kg.mono u13⟩
    obtain ⟨y, hy, ny⟩ := hpick
    have kb16 := kb15.mono u13
    have kc16 := kc15.mono u13
    generalize upd H15 m13 (.lst [.ref m2, .ref m7, .ref m8, .non, .int 5, .str "+", .ref m9, .bl true, .ref m10, .ref m12]) = H16 at u13 kz t16 ny kb16 kc16
    refine ⟨.ref m13, rfl, m13, _, 0, .ref m2, rfl, rfl, kz, atI_nat (j := 0) rfl, .ref m13, rfl, m13, _, 1, .ref m7, rfl, rfl, kz, atI_nat (j := 1) rfl, .ref m13, rfl, .int c, rfl, _, _, rfl, rfl, ⟨by decide, by decide⟩, _, _, rfl, rfl, (by show (0 : Int) < 8; decide), _, _, rfl, rfl,
      m13, _, 2 + c / 8000 % 8, y, rfl, rfl, kz, hy, small_ok (by simp), fun p np => ?_⟩
    have uz : Same H16 (upd H16 p (.lst [.ref m2, .ref m7, y])) := same_upd np
    exact q _ p (.ref m2) (.ref m7) y (t16.trans uz) (none_before t16 np) upd_same (kb16.mono uz) (kc16.mono uz) (ny.mono uz)
/-! ### the law -/
theorem rep_row {ns : List Int} (r : Row ns) (hne : ns ≠ []) : ∀ k : Nat, 1 ≤ k → Row (List.replicate k ns).flatten
  | 0, h => absurd h (by decide)
  | 1, _ => by
    have e : (List.replicate 1 ns).flatten = ns := by simp
    rw [e]
    exact r
  | k + 2, _ => by
    have ih := rep_row r hne (k + 1) (by omega)
    have e : (List.replicate (k + 2) ns).flatten = ns ++ (List.replicate (k + 1) ns).flatten := by
      rw [List.replicate_succ, List.flatten_cons]
    rw [e]
    refine ⟨fun n hn => ?_, ?_⟩
    · rcases List.mem_append.mp hn with h | h
      · exact r.1 n h
      · exact ih.1 n h
    · rw [List.getLast?_append]
      cases h : (List.replicate (k + 1) ns).flatten.getLast? with
      | none =>
        have z := List.getLast?_eq_none_iff.mp h
        rw [List.replicate_succ, List.flatten_cons] at z
        exact absurd (List.append_eq_nil_iff.mp z).1 hne
      | some v =>
        have := ih.2
        rw [h] at this
        simpa using this
theorem rep_map (ns : List Int) : ∀ k : Nat, (List.replicate k (ns.map V.int)).flatten = ((List.replicate k ns).flatten).map V.int
  | 0 => rfl
  | k + 1 => by
    rw [List.replicate_succ, List.replicate_succ, List.flatten_cons, List.flatten_cons, List.map_append, rep_map ns k]
theorem rep_len (ns : List Int) : ∀ k : Nat, ((List.replicate k ns).flatten).length = ns.length * k
  | 0 => by simp
  | k + 1 => by
    rw [List.replicate_succ, List.flatten_cons, List.length_append, rep_len ns k, Nat.mul_succ]
    omega
def sp_law (K : PySem.W.Frag) : Sp := fun vs H Q _ => ∃ (a : Addr) (ns : List Int), vs = [.ref a] ∧ SqL K H a (ns.map V.int) ∧ ns.length ≤ 63 ∧ ∀ H', Q (.bl true) H'
theorem ok_law_at (T : Txt K mg) {f : Addr} {fd : FuncData} (F : Fun K "law" "law" t_law f fd) (b : Binds K fd p_law []) : FnOk P w K mg base CX0 7 f fd p_law (sp_law K) := by
  refine F.ok sc_law (fun vs H Q E h => ?_) (fun cdv A outer s H vs Q E hr h => ?_)
  · obtain ⟨_, _, rfl, _⟩ := h
    rfl
  · obtain ⟨a, ns, rfl, hS, hlen, q⟩ := h
    refine ⟨_, pss_cons (ps_set (i := 1) sc_law.nd rfl (.inl rfl) (pe_call (ok_Lrow T) (hr.mono (by decide)) (by rfl) T.g_Lrow T.F_Lrow.kp T.b_Lrow .nil pass0 (pa_cons (pv 0) pa_nil)))
      (pss_cons (ps_if (PW.pt (pw_or (pt_not (pt_val (pe_call (ok_Lright T) hr (by rfl) T.g_Lright T.F_Lright.kp T.b_Lright .nil pass0 (pa_cons (pv 1) pa_nil))))
          (pw_or1 (pt_not (pt_val (pe_call (ok_Lright T) hr (by rfl) T.g_Lright T.F_Lright.kp T.b_Lright .nil pass0 (pa_cons (pe_op op_rep (pv 1) (pe_op op_add pe_int (pe_op op_fdiv pe_int (pe_callB call_len_seq (by rfl) T.z_len PySem.boot_len (pa_cons (pv 1) pa_nil))))) pa_nil))))))) (pss_one (ps_ret pe_bl)) pss_nil)
      (pss_cons (ps_for PassesOwn.never rfl (pi_list (pe_call (ok_Lothers T) (hr.mono (by decide)) (by rfl) T.g_Lothers T.F_Lothers.kp T.b_Lothers .nil pass0 (pa_cons (pv 1)
          (pa_cons (pe_call (ok_Lmixed T) (hr.mono (by decide)) (by rfl) T.g_Lmixed T.F_Lmixed.kp T.b_Lmixed .nil pass0 (pa_cons (pe_call (ok_Lcell_at T) (hr.mono (by decide)) (by rfl) T.g_Lcell_at T.F_Lcell_at.kp T.b_Lcell_at .nil pass0 (pa_cons (pv 0) (pa_cons pe_int pa_nil))) (pa_cons pe_int pa_nil))) pa_nil))))
          (pg_name (i := 2) sc_law.nd rfl (.inl rfl))
        (pss_one (ps_if (pt_cmpR op_isnot_bl (pe_call (ok_is_row T) (hr.mono (by decide)) (by rfl) T.g_is_row T.F_is_row.kp T.b_is_row .nil pass0 (pa_cons (pv 2) pa_nil)) pe_bl (nomark _)) (pss_one (ps_ret pe_bl)) pss_nil)))
      (pss_one (ps_ret (pe_and (pe_cmpR op_is_bl (pe_call (ok_is_row T) (hr.mono (by decide)) (by rfl) T.g_is_row T.F_is_row.kp T.b_is_row .nil pass0 (pa_cons (pe_lst pa_nil) pa_nil)) pe_bl (nomark _))
        (pe_and (pe_cmpR op_eq (pe_call (ok_worth T) (hr.mono (by decide)) (by rfl) T.g_worth T.F_worth.kp T.b_worth .nil pass0 (pa_cons (pe_lst pa_nil) pa_nil)) pe_int (nomark _))
        (pe_and (pe_cmpR op_eq (pe_call (ok_weight T) (hr.mono (by decide)) (by rfl) T.g_weight T.F_weight.kp T.b_weight .nil pass0 (pa_cons (pe_lst pa_nil) pa_nil)) pe_int (nomark _))
        (pe_one (pe_cmpR op_is_bl (pe_call (ok_is_lean T) (hr.mono (by decide)) (by rfl) T.g_is_lean T.F_is_lean.kp T.b_is_lean .nil pass0 (pa_cons (pe_lst pa_nil) pa_nil)) pe_bl (nomark _)))))))))), ?_⟩
    refine ⟨.ref a, rfl, a, ns, rfl, hS, hlen, fun H1 p rs s1 np rr rne rl ep => ?_⟩
    have rP : RowAt K H1 p rs := ⟨SqL.of ep, rr, by omega⟩
    refine ⟨.ref p, rfl, p, rs, rfl, rP, fun H2 s2 => ⟨true, rfl, ?_⟩⟩
    refine iteF ?_
    have ep2 := s2 _ _ ep
    have rl0 : 0 < rs.length := by
      cases rs with
      | nil => exact absurd rfl rne
      | cons n r => exact Nat.succ_pos _
    have lm : (rs.map V.int).length = rs.length := List.length_map ..
    have d0 : (0 : Int) ≤ 1100 / (rs.length : Int) := Int.ediv_nonneg (by decide) (by omega)
    have d1 : (1100 : Int) / (rs.length : Int) ≤ 1100 := Int.ediv_le_self _ (by decide)
    have hk1 : (1 : Nat) ≤ (1 + 1100 / (rs.length : Int)).toNat := by omega
    have hk2 : (1 + 1100 / (rs.length : Int)).toNat ≤ 1101 := by omega
    have hmul : rs.length * (1 + 1100 / (rs.length : Int)).toNat ≤ 64 * 1101 := Nat.mul_le_mul rl hk2
    have lim : (4000000 : Nat) ≤ sizeLine := by decide
    refine ⟨.ref p, rfl, .ref p, rfl, p, rs.map V.int, rfl, .inl (SqL.of ep2), _, _, rfl, rfl, (by rw [lm]; exact ⟨by omega, by omega⟩), _, _, rfl, rfl, p, _, rs.map V.int, rfl, rfl, ep2, ?_, ?_, ?_, fun r nr => ?_⟩
    · rw [lm]
      omega
    · rw [lm]
      omega
    · rw [lm]
      omega
    rw [lm, rep_map]
    have s3 : Same H2 (upd H2 r (.lst (((List.replicate (1 + 1100 / (rs.length : Int)).toNat rs).flatten).map V.int))) := same_upd nr
    have rR : RowAt K (upd H2 r (.lst (((List.replicate (1 + 1100 / (rs.length : Int)).toNat rs).flatten).map V.int))) r (List.replicate (1 + 1100 / (rs.length : Int)).toNat rs).flatten :=
      ⟨SqL.of upd_same, rep_row rr rne _ hk1, by rw [rep_len]; omega⟩
    refine ⟨r, _, rfl, rR, fun H4 s4 => ⟨true, rfl, ?_⟩⟩
    refine iteF ?_
    have t4 := s2.trans (s3.trans s4)
    have hS4 := (s1.trans t4).seq hS
    obtain ⟨m0, m1⟩ := mixd_b (cell ns 2) 1
    refine ⟨.ref p, rfl, .ref a, rfl, a, ns, 2, rfl, hS4, cell ns 2, 1, rfl, by decide, by decide, p, rs, mixd (cell ns 2) 1, rfl, t4 _ _ ep, rne, rl, m0, m1, fun H5 u x y z s5 nu eu hx hy hz => ?_⟩
    refine ⟨u, rfl, ⟨_, SqL.of eu⟩, ?_⟩
    refine for_list (xs := [x, y, z]) (fun i σ H6 => Same H5 H6 ∧ ∃ y2, σ = [some (.ref a), some (.ref p), y2]) ⟨Same.refl _, _, rfl⟩ (fun i σ H6 _ e => e.1.seq (SqL.of eu)) (fun i v σ H6 hv e => ?_) (fun σ H6 e => ?_)
    · obtain ⟨s6, y2, rfl⟩ := e
      have nv : NR K H6 v := by
        have hm : v ∈ [x, y, z] := List.mem_of_getElem? hv
        rcases List.mem_cons.mp hm with h | hm
        · rw [h]
          exact hx.mono s6
        · rcases List.mem_cons.mp hm with h | hm
          · rw [h]
            exact hy.mono s6
          · rw [List.mem_singleton.mp hm]
            exact hz.mono s6
      refine ⟨v, rfl, v, rfl, ?_⟩
      rcases nv with ⟨i1, b1, k1⟩ | ⟨c, xs, rfl, hq, hp, hl, hb⟩
      · refine .inl ⟨i1, b1, k1, false, false, rfl, rfl, _, rfl, ?_⟩
        exact iteF ⟨s6, _, rfl⟩
      · refine .inr ⟨c, xs, rfl, hq, hp, hl, fun H7 s7 => ⟨_, false, rfl, rfl, _, rfl, ?_⟩⟩
        rw [hb]
        exact iteF ⟨s6.trans s7, _, rfl⟩
    · obtain ⟨s6, y2, rfl⟩ := e
      have r0 : ∀ (H : Hp) (l : Addr), H l = some (.lst []) → RowAt K H l [] := fun H l e => ⟨SqL.of e, ⟨fun n hn => (nomatch hn), fun z => (nomatch z)⟩, by decide⟩
      refine ⟨by decide, fun l nl => ?_⟩
      refine ⟨.ref l, rfl, .inr ⟨l, [], rfl, SqL.of upd_same, (fun y hy => nomatch hy), by decide, fun H8 s8 => ?_⟩⟩
      refine ⟨true, true, rfl, rfl, _, rfl, ?_⟩
      refine iteT ⟨by decide, fun l2 nl2 => ⟨l2, [], rfl, r0 _ _ upd_same, fun H9 s9 => ⟨rfl, _, rfl, ?_⟩⟩⟩
      refine iteT ⟨by decide, fun l3 nl3 => ⟨l3, [], rfl, r0 _ _ upd_same, fun H10 s10 => ⟨rfl, _, rfl, ?_⟩⟩⟩
      refine iteT ⟨by decide, fun l4 nl4 => ⟨l4, [], rfl, r0 _ _ upd_same, fun H11 s11 => ⟨true, true, rfl, rfl, ?_⟩⟩⟩
      exact q H11
end
/-! ### what the top has written; the law's own head -/
theorem all_mk {l : PySem.W.OpenLaw} {w : World} {K : PySem.W.Frag} {h : Heap} {mg : Str → Option Value} {fa : Addr} (X : K.In h) (G : h.Ns mainGlobals mg) (hfa : mg "law" = some (.ref fa))
    {f_is_whole : Addr} {od_is_whole an_is_whole : Option Addr} {sl_is_whole : Array (Option Value)} {oc_is_whole kV_is_whole dc_is_whole pm_is_whole cd_is_whole ct_is_whole : Value}
    (a_is_whole : PySem.W.nsIn K mainGlobals "is_whole" = some (some (.ref f_is_whole)))
    (l_is_whole : K.lookup f_is_whole = some ⟨oc_is_whole, od_is_whole, .func (PySem.W.fnOf "is_whole" "is_whole" (defArgs t_is_whole) (defBody t_is_whole) (defScope t_is_whole) .none kV_is_whole dc_is_whole pm_is_whole an_is_whole cd_is_whole ct_is_whole), sl_is_whole⟩)
    (c_is_whole : PySem.W.codeIn K cd_is_whole "is_whole" = true) (k_is_whole : PySem.W.keepIn K (.ref f_is_whole) = true)
    {f_is_figure : Addr} {od_is_figure an_is_figure : Option Addr} {sl_is_figure : Array (Option Value)} {oc_is_figure kV_is_figure dc_is_figure pm_is_figure cd_is_figure ct_is_figure : Value}
    (a_is_figure : PySem.W.nsIn K mainGlobals "is_figure" = some (some (.ref f_is_figure)))
    (l_is_figure : K.lookup f_is_figure = some ⟨oc_is_figure, od_is_figure, .func (PySem.W.fnOf "is_figure" "is_figure" (defArgs t_is_figure) (defBody t_is_figure) (defScope t_is_figure) .none kV_is_figure dc_is_figure pm_is_figure an_is_figure cd_is_figure ct_is_figure), sl_is_figure⟩)
    (c_is_figure : PySem.W.codeIn K cd_is_figure "is_figure" = true) (k_is_figure : PySem.W.keepIn K (.ref f_is_figure) = true)
    {f_is_row : Addr} {od_is_row an_is_row : Option Addr} {sl_is_row : Array (Option Value)} {oc_is_row kV_is_row dc_is_row pm_is_row cd_is_row ct_is_row : Value}
    (a_is_row : PySem.W.nsIn K mainGlobals "is_row" = some (some (.ref f_is_row)))
    (l_is_row : K.lookup f_is_row = some ⟨oc_is_row, od_is_row, .func (PySem.W.fnOf "is_row" "is_row" (defArgs t_is_row) (defBody t_is_row) (defScope t_is_row) .none kV_is_row dc_is_row pm_is_row an_is_row cd_is_row ct_is_row), sl_is_row⟩)
    (c_is_row : PySem.W.codeIn K cd_is_row "is_row" = true) (k_is_row : PySem.W.keepIn K (.ref f_is_row) = true)
    {f_refuse_no_row : Addr} {od_refuse_no_row an_refuse_no_row : Option Addr} {sl_refuse_no_row : Array (Option Value)} {oc_refuse_no_row kV_refuse_no_row dc_refuse_no_row pm_refuse_no_row cd_refuse_no_row ct_refuse_no_row : Value}
    (a_refuse_no_row : PySem.W.nsIn K mainGlobals "refuse_no_row" = some (some (.ref f_refuse_no_row)))
    (l_refuse_no_row : K.lookup f_refuse_no_row = some ⟨oc_refuse_no_row, od_refuse_no_row, .func (PySem.W.fnOf "refuse_no_row" "refuse_no_row" (defArgs t_refuse_no_row) (defBody t_refuse_no_row) (defScope t_refuse_no_row) .none kV_refuse_no_row dc_refuse_no_row pm_refuse_no_row an_refuse_no_row cd_refuse_no_row ct_refuse_no_row), sl_refuse_no_row⟩)
    (c_refuse_no_row : PySem.W.codeIn K cd_refuse_no_row "refuse_no_row" = true) (k_refuse_no_row : PySem.W.keepIn K (.ref f_refuse_no_row) = true)
    {f_worth : Addr} {od_worth an_worth : Option Addr} {sl_worth : Array (Option Value)} {oc_worth kV_worth dc_worth pm_worth cd_worth ct_worth : Value}
    (a_worth : PySem.W.nsIn K mainGlobals "worth" = some (some (.ref f_worth)))
    (l_worth : K.lookup f_worth = some ⟨oc_worth, od_worth, .func (PySem.W.fnOf "worth" "worth" (defArgs t_worth) (defBody t_worth) (defScope t_worth) .none kV_worth dc_worth pm_worth an_worth cd_worth ct_worth), sl_worth⟩)
    (c_worth : PySem.W.codeIn K cd_worth "worth" = true) (k_worth : PySem.W.keepIn K (.ref f_worth) = true)
    {f_marked : Addr} {od_marked an_marked : Option Addr} {sl_marked : Array (Option Value)} {oc_marked kV_marked dc_marked pm_marked cd_marked ct_marked : Value}
    (a_marked : PySem.W.nsIn K mainGlobals "marked" = some (some (.ref f_marked)))
    (l_marked : K.lookup f_marked = some ⟨oc_marked, od_marked, .func (PySem.W.fnOf "marked" "marked" (defArgs t_marked) (defBody t_marked) (defScope t_marked) .none kV_marked dc_marked pm_marked an_marked cd_marked ct_marked), sl_marked⟩)
    (c_marked : PySem.W.codeIn K cd_marked "marked" = true) (k_marked : PySem.W.keepIn K (.ref f_marked) = true)
    {f_weight : Addr} {od_weight an_weight : Option Addr} {sl_weight : Array (Option Value)} {oc_weight kV_weight dc_weight pm_weight cd_weight ct_weight : Value}
    (a_weight : PySem.W.nsIn K mainGlobals "weight" = some (some (.ref f_weight)))
    (l_weight : K.lookup f_weight = some ⟨oc_weight, od_weight, .func (PySem.W.fnOf "weight" "weight" (defArgs t_weight) (defBody t_weight) (defScope t_weight) .none kV_weight dc_weight pm_weight an_weight cd_weight ct_weight), sl_weight⟩)
    (c_weight : PySem.W.codeIn K cd_weight "weight" = true) (k_weight : PySem.W.keepIn K (.ref f_weight) = true)
    {f_is_lean : Addr} {od_is_lean an_is_lean : Option Addr} {sl_is_lean : Array (Option Value)} {oc_is_lean kV_is_lean dc_is_lean pm_is_lean cd_is_lean ct_is_lean : Value}
    (a_is_lean : PySem.W.nsIn K mainGlobals "is_lean" = some (some (.ref f_is_lean)))
    (l_is_lean : K.lookup f_is_lean = some ⟨oc_is_lean, od_is_lean, .func (PySem.W.fnOf "is_lean" "is_lean" (defArgs t_is_lean) (defBody t_is_lean) (defScope t_is_lean) .none kV_is_lean dc_is_lean pm_is_lean an_is_lean cd_is_lean ct_is_lean), sl_is_lean⟩)
    (c_is_lean : PySem.W.codeIn K cd_is_lean "is_lean" = true) (k_is_lean : PySem.W.keepIn K (.ref f_is_lean) = true)
    {f_Lcell_at : Addr} {od_Lcell_at an_Lcell_at : Option Addr} {sl_Lcell_at : Array (Option Value)} {oc_Lcell_at kV_Lcell_at dc_Lcell_at pm_Lcell_at cd_Lcell_at ct_Lcell_at : Value}
    (a_Lcell_at : PySem.W.nsIn K mainGlobals "_law_cell_at" = some (some (.ref f_Lcell_at)))
    (l_Lcell_at : K.lookup f_Lcell_at = some ⟨oc_Lcell_at, od_Lcell_at, .func (PySem.W.fnOf "_law_cell_at" "_law_cell_at" (defArgs t_Lcell_at) (defBody t_Lcell_at) (defScope t_Lcell_at) .none kV_Lcell_at dc_Lcell_at pm_Lcell_at an_Lcell_at cd_Lcell_at ct_Lcell_at), sl_Lcell_at⟩)
    (c_Lcell_at : PySem.W.codeIn K cd_Lcell_at "_law_cell_at" = true) (k_Lcell_at : PySem.W.keepIn K (.ref f_Lcell_at) = true)
    {f_Lmixed : Addr} {od_Lmixed an_Lmixed : Option Addr} {sl_Lmixed : Array (Option Value)} {oc_Lmixed kV_Lmixed dc_Lmixed pm_Lmixed cd_Lmixed ct_Lmixed : Value}
    (a_Lmixed : PySem.W.nsIn K mainGlobals "_law_mixed" = some (some (.ref f_Lmixed)))
    (l_Lmixed : K.lookup f_Lmixed = some ⟨oc_Lmixed, od_Lmixed, .func (PySem.W.fnOf "_law_mixed" "_law_mixed" (defArgs t_Lmixed) (defBody t_Lmixed) (defScope t_Lmixed) .none kV_Lmixed dc_Lmixed pm_Lmixed an_Lmixed cd_Lmixed ct_Lmixed), sl_Lmixed⟩)
    (c_Lmixed : PySem.W.codeIn K cd_Lmixed "_law_mixed" = true) (k_Lmixed : PySem.W.keepIn K (.ref f_Lmixed) = true)
    {f_Lwhole : Addr} {od_Lwhole an_Lwhole : Option Addr} {sl_Lwhole : Array (Option Value)} {oc_Lwhole kV_Lwhole dc_Lwhole pm_Lwhole cd_Lwhole ct_Lwhole : Value}
    (a_Lwhole : PySem.W.nsIn K mainGlobals "_law_whole" = some (some (.ref f_Lwhole)))
    (l_Lwhole : K.lookup f_Lwhole = some ⟨oc_Lwhole, od_Lwhole, .func (PySem.W.fnOf "_law_whole" "_law_whole" (defArgs t_Lwhole) (defBody t_Lwhole) (defScope t_Lwhole) .none kV_Lwhole dc_Lwhole pm_Lwhole an_Lwhole cd_Lwhole ct_Lwhole), sl_Lwhole⟩)
    (c_Lwhole : PySem.W.codeIn K cd_Lwhole "_law_whole" = true) (k_Lwhole : PySem.W.keepIn K (.ref f_Lwhole) = true)
    {f_Lworth : Addr} {od_Lworth an_Lworth : Option Addr} {sl_Lworth : Array (Option Value)} {oc_Lworth kV_Lworth dc_Lworth pm_Lworth cd_Lworth ct_Lworth : Value}
    (a_Lworth : PySem.W.nsIn K mainGlobals "_law_worth" = some (some (.ref f_Lworth)))
    (l_Lworth : K.lookup f_Lworth = some ⟨oc_Lworth, od_Lworth, .func (PySem.W.fnOf "_law_worth" "_law_worth" (defArgs t_Lworth) (defBody t_Lworth) (defScope t_Lworth) .none kV_Lworth dc_Lworth pm_Lworth an_Lworth cd_Lworth ct_Lworth), sl_Lworth⟩)
    (c_Lworth : PySem.W.codeIn K cd_Lworth "_law_worth" = true) (k_Lworth : PySem.W.keepIn K (.ref f_Lworth) = true)
    {f_Lis_lean : Addr} {od_Lis_lean an_Lis_lean : Option Addr} {sl_Lis_lean : Array (Option Value)} {oc_Lis_lean kV_Lis_lean dc_Lis_lean pm_Lis_lean cd_Lis_lean ct_Lis_lean : Value}
    (a_Lis_lean : PySem.W.nsIn K mainGlobals "_law_is_lean" = some (some (.ref f_Lis_lean)))
    (l_Lis_lean : K.lookup f_Lis_lean = some ⟨oc_Lis_lean, od_Lis_lean, .func (PySem.W.fnOf "_law_is_lean" "_law_is_lean" (defArgs t_Lis_lean) (defBody t_Lis_lean) (defScope t_Lis_lean) .none kV_Lis_lean dc_Lis_lean pm_Lis_lean an_Lis_lean cd_Lis_lean ct_Lis_lean), sl_Lis_lean⟩)
    (c_Lis_lean : PySem.W.codeIn K cd_Lis_lean "_law_is_lean" = true) (k_Lis_lean : PySem.W.keepIn K (.ref f_Lis_lean) = true)
    {f_Lrow : Addr} {od_Lrow an_Lrow : Option Addr} {sl_Lrow : Array (Option Value)} {oc_Lrow kV_Lrow dc_Lrow pm_Lrow cd_Lrow ct_Lrow : Value}
    (a_Lrow : PySem.W.nsIn K mainGlobals "_law_row" = some (some (.ref f_Lrow)))
    (l_Lrow : K.lookup f_Lrow = some ⟨oc_Lrow, od_Lrow, .func (PySem.W.fnOf "_law_row" "_law_row" (defArgs t_Lrow) (defBody t_Lrow) (defScope t_Lrow) .none kV_Lrow dc_Lrow pm_Lrow an_Lrow cd_Lrow ct_Lrow), sl_Lrow⟩)
    (c_Lrow : PySem.W.codeIn K cd_Lrow "_law_row" = true) (k_Lrow : PySem.W.keepIn K (.ref f_Lrow) = true)
    {f_Lothers : Addr} {od_Lothers an_Lothers : Option Addr} {sl_Lothers : Array (Option Value)} {oc_Lothers kV_Lothers dc_Lothers pm_Lothers cd_Lothers ct_Lothers : Value}
    (a_Lothers : PySem.W.nsIn K mainGlobals "_law_others" = some (some (.ref f_Lothers)))
    (l_Lothers : K.lookup f_Lothers = some ⟨oc_Lothers, od_Lothers, .func (PySem.W.fnOf "_law_others" "_law_others" (defArgs t_Lothers) (defBody t_Lothers) (defScope t_Lothers) .none kV_Lothers dc_Lothers pm_Lothers an_Lothers cd_Lothers ct_Lothers), sl_Lothers⟩)
    (c_Lothers : PySem.W.codeIn K cd_Lothers "_law_others" = true) (k_Lothers : PySem.W.keepIn K (.ref f_Lothers) = true)
    {f_Lright : Addr} {od_Lright an_Lright : Option Addr} {sl_Lright : Array (Option Value)} {oc_Lright kV_Lright dc_Lright pm_Lright cd_Lright ct_Lright : Value}
    (a_Lright : PySem.W.nsIn K mainGlobals "_law_right" = some (some (.ref f_Lright)))
    (l_Lright : K.lookup f_Lright = some ⟨oc_Lright, od_Lright, .func (PySem.W.fnOf "_law_right" "_law_right" (defArgs t_Lright) (defBody t_Lright) (defScope t_Lright) .none kV_Lright dc_Lright pm_Lright an_Lright cd_Lright ct_Lright), sl_Lright⟩)
    (c_Lright : PySem.W.codeIn K cd_Lright "_law_right" = true) (k_Lright : PySem.W.keepIn K (.ref f_Lright) = true)
    {f_law : Addr} {od_law an_law : Option Addr} {sl_law : Array (Option Value)} {oc_law kV_law dc_law pm_law cd_law ct_law : Value}
    (a_law : PySem.W.nsIn K mainGlobals "law" = some (some (.ref f_law)))
    (l_law : K.lookup f_law = some ⟨oc_law, od_law, .func (PySem.W.fnOf "law" "law" (defArgs t_law) (defBody t_law) (defScope t_law) .none kV_law dc_law pm_law an_law cd_law ct_law), sl_law⟩)
    (c_law : PySem.W.codeIn K cd_law "law" = true) (k_law : PySem.W.keepIn K (.ref f_law) = true)
    (z_isinstance : PySem.W.nsIn K mainGlobals "isinstance" = some none)
    (z_int : PySem.W.nsIn K mainGlobals "int" = some none)
    (z_bool : PySem.W.nsIn K mainGlobals "bool" = some none)
    (z_list : PySem.W.nsIn K mainGlobals "list" = some none)
    (z_all : PySem.W.nsIn K mainGlobals "all" = some none)
    (z_len : PySem.W.nsIn K mainGlobals "len" = some none)
    (z_reversed : PySem.W.nsIn K mainGlobals "reversed" = some none)
    (z_zip : PySem.W.nsIn K mainGlobals "zip" = some none)
    (z_range : PySem.W.nsIn K mainGlobals "range" = some none)
    (z_enumerate : PySem.W.nsIn K mainGlobals "enumerate" = some none)
    (z_tuple : PySem.W.nsIn K mainGlobals "tuple" = some none)
    {C_LeanError : Addr} (x_LeanError : PySem.W.nsIn K mainGlobals "LeanError" = some (some (.ref C_LeanError)))
    {C_NoRow : Addr} (x_NoRow : PySem.W.nsIn K mainGlobals "NoRow" = some (some (.ref C_NoRow)))
    (dg : PySem.W.nsIn K cStatics "sys.int_max_str_digits" = some none) :
    ∃ fd : FuncData, (∀ (s : Shared) (v : Value), BindsTo s fd ⟨[v], []⟩ [("_law_script", v)]) ∧ ∀ base : Heap, K.In base → base.Ns mainGlobals mg → FnOk l.prog w K mg base CX0 7 fa fd p_law (sp_law K) := by
  have e := hfa.symm.trans (PySem.W.mg_of X G a_law)
  cases e
  have F_is_whole := fun_mk (st := t_is_whole) l_is_whole c_is_whole k_is_whole
  have b_is_whole := F_is_whole.binds (ps := p_is_whole) fun _ _ _ _ _ _ us hl => match us, hl with | [_], _ => rfl
  have F_is_figure := fun_mk (st := t_is_figure) l_is_figure c_is_figure k_is_figure
  have b_is_figure := F_is_figure.binds (ps := p_is_figure) fun _ _ _ _ _ _ us hl => match us, hl with | [_], _ => rfl
  have F_is_row := fun_mk (st := t_is_row) l_is_row c_is_row k_is_row
  have b_is_row := F_is_row.binds (ps := p_is_row) fun _ _ _ _ _ _ us hl => match us, hl with | [_], _ => rfl
  have F_refuse_no_row := fun_mk (st := t_refuse_no_row) l_refuse_no_row c_refuse_no_row k_refuse_no_row
  have b_refuse_no_row := F_refuse_no_row.binds (ps := p_refuse_no_row) fun _ _ _ _ _ _ us hl => match us, hl with | [_], _ => rfl
  have F_worth := fun_mk (st := t_worth) l_worth c_worth k_worth
  have b_worth := F_worth.binds (ps := p_worth) fun _ _ _ _ _ _ us hl => match us, hl with | [_], _ => rfl
  have F_marked := fun_mk (st := t_marked) l_marked c_marked k_marked
  have b_marked := F_marked.binds (ps := p_marked) fun _ _ _ _ _ _ us hl => match us, hl with | [_, _], _ => rfl
  have F_weight := fun_mk (st := t_weight) l_weight c_weight k_weight
  have b_weight := F_weight.binds (ps := p_weight) fun _ _ _ _ _ _ us hl => match us, hl with | [_], _ => rfl
  have F_is_lean := fun_mk (st := t_is_lean) l_is_lean c_is_lean k_is_lean
  have b_is_lean := F_is_lean.binds (ps := p_is_lean) fun _ _ _ _ _ _ us hl => match us, hl with | [_], _ => rfl
  have F_Lcell_at := fun_mk (st := t_Lcell_at) l_Lcell_at c_Lcell_at k_Lcell_at
  have b_Lcell_at := F_Lcell_at.binds (ps := p_Lcell_at) fun _ _ _ _ _ _ us hl => match us, hl with | [_, _], _ => rfl
  have F_Lmixed := fun_mk (st := t_Lmixed) l_Lmixed c_Lmixed k_Lmixed
  have b_Lmixed := F_Lmixed.binds (ps := p_Lmixed) fun _ _ _ _ _ _ us hl => match us, hl with | [_, _], _ => rfl
  have F_Lwhole := fun_mk (st := t_Lwhole) l_Lwhole c_Lwhole k_Lwhole
  have b_Lwhole := F_Lwhole.binds (ps := p_Lwhole) fun _ _ _ _ _ _ us hl => match us, hl with | [_], _ => rfl
  have F_Lworth := fun_mk (st := t_Lworth) l_Lworth c_Lworth k_Lworth
  have b_Lworth := F_Lworth.binds (ps := p_Lworth) fun _ _ _ _ _ _ us hl => match us, hl with | [_], _ => rfl
  have F_Lis_lean := fun_mk (st := t_Lis_lean) l_Lis_lean c_Lis_lean k_Lis_lean
  have b_Lis_lean := F_Lis_lean.binds (ps := p_Lis_lean) fun _ _ _ _ _ _ us hl => match us, hl with | [_], _ => rfl
  have F_Lrow := fun_mk (st := t_Lrow) l_Lrow c_Lrow k_Lrow
  have b_Lrow := F_Lrow.binds (ps := p_Lrow) fun _ _ _ _ _ _ us hl => match us, hl with | [_], _ => rfl
  have F_Lothers := fun_mk (st := t_Lothers) l_Lothers c_Lothers k_Lothers
  have b_Lothers := F_Lothers.binds (ps := p_Lothers) fun _ _ _ _ _ _ us hl => match us, hl with | [_, _], _ => rfl
  have F_Lright := fun_mk (st := t_Lright) l_Lright c_Lright k_Lright
  have b_Lright := F_Lright.binds (ps := p_Lright) fun _ _ _ _ _ _ us hl => match us, hl with | [_], _ => rfl
  have F_law := fun_mk (st := t_law) l_law c_law k_law
  have b_law := F_law.binds (ps := p_law) fun _ _ _ _ _ _ us hl => match us, hl with | [_], _ => rfl
  have T : Txt K mg := {
    a_is_whole := _, d_is_whole := _, F_is_whole := F_is_whole, b_is_whole := b_is_whole, g_is_whole := PySem.W.mg_of X G a_is_whole,
    a_is_figure := _, d_is_figure := _, F_is_figure := F_is_figure, b_is_figure := b_is_figure, g_is_figure := PySem.W.mg_of X G a_is_figure,
    a_is_row := _, d_is_row := _, F_is_row := F_is_row, b_is_row := b_is_row, g_is_row := PySem.W.mg_of X G a_is_row,
    a_refuse_no_row := _, d_refuse_no_row := _, F_refuse_no_row := F_refuse_no_row, b_refuse_no_row := b_refuse_no_row, g_refuse_no_row := PySem.W.mg_of X G a_refuse_no_row,
    a_worth := _, d_worth := _, F_worth := F_worth, b_worth := b_worth, g_worth := PySem.W.mg_of X G a_worth,
    a_marked := _, d_marked := _, F_marked := F_marked, b_marked := b_marked, g_marked := PySem.W.mg_of X G a_marked,
    a_weight := _, d_weight := _, F_weight := F_weight, b_weight := b_weight, g_weight := PySem.W.mg_of X G a_weight,
    a_is_lean := _, d_is_lean := _, F_is_lean := F_is_lean, b_is_lean := b_is_lean, g_is_lean := PySem.W.mg_of X G a_is_lean,
    a_Lcell_at := _, d_Lcell_at := _, F_Lcell_at := F_Lcell_at, b_Lcell_at := b_Lcell_at, g_Lcell_at := PySem.W.mg_of X G a_Lcell_at,
    a_Lmixed := _, d_Lmixed := _, F_Lmixed := F_Lmixed, b_Lmixed := b_Lmixed, g_Lmixed := PySem.W.mg_of X G a_Lmixed,
    a_Lwhole := _, d_Lwhole := _, F_Lwhole := F_Lwhole, b_Lwhole := b_Lwhole, g_Lwhole := PySem.W.mg_of X G a_Lwhole,
    a_Lworth := _, d_Lworth := _, F_Lworth := F_Lworth, b_Lworth := b_Lworth, g_Lworth := PySem.W.mg_of X G a_Lworth,
    a_Lis_lean := _, d_Lis_lean := _, F_Lis_lean := F_Lis_lean, b_Lis_lean := b_Lis_lean, g_Lis_lean := PySem.W.mg_of X G a_Lis_lean,
    a_Lrow := _, d_Lrow := _, F_Lrow := F_Lrow, b_Lrow := b_Lrow, g_Lrow := PySem.W.mg_of X G a_Lrow,
    a_Lothers := _, d_Lothers := _, F_Lothers := F_Lothers, b_Lothers := b_Lothers, g_Lothers := PySem.W.mg_of X G a_Lothers,
    a_Lright := _, d_Lright := _, F_Lright := F_Lright, b_Lright := b_Lright, g_Lright := PySem.W.mg_of X G a_Lright,
    a_law := _, d_law := _, F_law := F_law, b_law := b_law, g_law := PySem.W.mg_of X G a_law,
    z_isinstance := PySem.W.mg_none_of X G z_isinstance,
    z_int := PySem.W.mg_none_of X G z_int,
    z_bool := PySem.W.mg_none_of X G z_bool,
    z_list := PySem.W.mg_none_of X G z_list,
    z_all := PySem.W.mg_none_of X G z_all,
    z_len := PySem.W.mg_none_of X G z_len,
    z_reversed := PySem.W.mg_none_of X G z_reversed,
    z_zip := PySem.W.mg_none_of X G z_zip,
    z_range := PySem.W.mg_none_of X G z_range,
    z_enumerate := PySem.W.mg_none_of X G z_enumerate,
    z_tuple := PySem.W.mg_none_of X G z_tuple,
    c_LeanError := _, gc_LeanError := PySem.W.mg_of X G x_LeanError,
    c_NoRow := _, gc_NoRow := PySem.W.mg_of X G x_NoRow,
    digits := dg }
  exact ⟨_, fun s v => .of_eq rfl, fun base _ _ => ok_law_at T F_law b_law⟩
end K01
open PySem PySem.W PyProof.Rows
set_option maxHeartbeats 0 in
theorem PySem.Challenge.cw_leanfigures_k01_rows_looked_at_holds : PySem.Challenge.rw_leanfigures_k01_rows_looked_at.Holds := by
  w_on; o_law; k_head; (case hw => w_witness2)
  k_fill
  refine L2.walk_of (l := PySem.Challenge.rw_leanfigures_k01_rows_looked_at) (n := 63) (k := 7) (x := "_law_script") (CX := fun _ => L2.CX0) (sp := fun w => K01.sp_law _) rfl (by decide) rfl ⟨rfl, by decide, by decide⟩ (fun w h Y => PySem.W.kIn_of Y) ?F (fun _ _ a ns hl _ hS => ⟨a, ns, rfl, hS, hl, fun _ => rfl⟩) (fun _ _ _ _ _ h => h)
  case F =>
    intro w mg fa h KX G hmg
    refine' K01.all_mk KX G hmg ?a_is_whole ?l_is_whole ?c_is_whole ?k_is_whole ?a_is_figure ?l_is_figure ?c_is_figure ?k_is_figure ?a_is_row ?l_is_row ?c_is_row ?k_is_row ?a_refuse_no_row ?l_refuse_no_row ?c_refuse_no_row ?k_refuse_no_row ?a_worth ?l_worth ?c_worth ?k_worth ?a_marked ?l_marked ?c_marked ?k_marked ?a_weight ?l_weight ?c_weight ?k_weight ?a_is_lean ?l_is_lean ?c_is_lean ?k_is_lean ?a_Lcell_at ?l_Lcell_at ?c_Lcell_at ?k_Lcell_at ?a_Lmixed ?l_Lmixed ?c_Lmixed ?k_Lmixed ?a_Lwhole ?l_Lwhole ?c_Lwhole ?k_Lwhole ?a_Lworth ?l_Lworth ?c_Lworth ?k_Lworth ?a_Lis_lean ?l_Lis_lean ?c_Lis_lean ?k_Lis_lean ?a_Lrow ?l_Lrow ?c_Lrow ?k_Lrow ?a_Lothers ?l_Lothers ?c_Lothers ?k_Lothers ?a_Lright ?l_Lright ?c_Lright ?k_Lright ?a_law ?l_law ?c_law ?k_law ?z_isinstance ?z_int ?z_bool ?z_list ?z_all ?z_len ?z_reversed ?z_zip ?z_range ?z_enumerate ?z_tuple ?x_LeanError ?x_NoRow ?dg
    (case a_is_whole => k_is)
    (case l_is_whole => k_is)
    (case c_is_whole => k_is)
    (case k_is_whole => k_is)
    (case a_is_figure => k_is)
    (case l_is_figure => k_is)
    (case c_is_figure => k_is)
    (case k_is_figure => k_is)
    (case a_is_row => k_is)
    (case l_is_row => k_is)
    (case c_is_row => k_is)
    (case k_is_row => k_is)
    (case a_refuse_no_row => k_is)
    (case l_refuse_no_row => k_is)
    (case c_refuse_no_row => k_is)
    (case k_refuse_no_row => k_is)
    (case a_worth => k_is)
    (case l_worth => k_is)
    (case c_worth => k_is)
    (case k_worth => k_is)
    (case a_marked => k_is)
    (case l_marked => k_is)
    (case c_marked => k_is)
    (case k_marked => k_is)
    (case a_weight => k_is)
    (case l_weight => k_is)
    (case c_weight => k_is)
    (case k_weight => k_is)
    (case a_is_lean => k_is)
    (case l_is_lean => k_is)
    (case c_is_lean => k_is)
    (case k_is_lean => k_is)
    (case a_Lcell_at => k_is)
    (case l_Lcell_at => k_is)
    (case c_Lcell_at => k_is)
    (case k_Lcell_at => k_is)
    (case a_Lmixed => k_is)
    (case l_Lmixed => k_is)
    (case c_Lmixed => k_is)
    (case k_Lmixed => k_is)
    (case a_Lwhole => k_is)
    (case l_Lwhole => k_is)
    (case c_Lwhole => k_is)
    (case k_Lwhole => k_is)
    (case a_Lworth => k_is)
    (case l_Lworth => k_is)
    (case c_Lworth => k_is)
    (case k_Lworth => k_is)
    (case a_Lis_lean => k_is)
    (case l_Lis_lean => k_is)
    (case c_Lis_lean => k_is)
    (case k_Lis_lean => k_is)
    (case a_Lrow => k_is)
    (case l_Lrow => k_is)
    (case c_Lrow => k_is)
    (case k_Lrow => k_is)
    (case a_Lothers => k_is)
    (case l_Lothers => k_is)
    (case c_Lothers => k_is)
    (case k_Lothers => k_is)
    (case a_Lright => k_is)
    (case l_Lright => k_is)
    (case c_Lright => k_is)
    (case k_Lright => k_is)
    (case a_law => k_is)
    (case l_law => k_is)
    (case c_law => k_is)
    (case k_law => k_is)
    (case z_isinstance => k_is)
    (case z_int => k_is)
    (case z_bool => k_is)
    (case z_list => k_is)
    (case z_all => k_is)
    (case z_len => k_is)
    (case z_reversed => k_is)
    (case z_zip => k_is)
    (case z_range => k_is)
    (case z_enumerate => k_is)
    (case z_tuple => k_is)
    (case x_LeanError => k_is)
    (case x_NoRow => k_is)
    (case dg => k_is)
