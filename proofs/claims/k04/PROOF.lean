import PyProof.Rows.All
import Wide.All
import OpenK.AllK
import Wide.FinOn
import HandS.ForMost
import HandS.Wide
import HandS.WideBits
import HandS.IsInst
import HandS.IntHex
import HandS.FStr
import HandS.StrMore
import HandS.Style
import HandS.SetFor
import HandS.TupLe
import KE.KIntText
import KE.KxField
import KE.GoesZip
import KE.GoesMore
import KE.GoesEnum
import PyProof.FString3
import PyProof.Rows.StrRev
import PySem.Challenge.RW_leanfigures_k04_whole_one_lean_row
set_option Elab.async false
set_option linter.all false
set_option maxRecDepth 100000
set_option maxHeartbeats 4000000
/-! int(text, 2), the text of any length. -/
namespace XB
open PySem PySem.NumText PySem.Calls L2

/-- binary signs alone -/
def Bits (cs : List Nat) : Prop := ∀ c ∈ cs, c = 48 ∨ c = 49
/-- what they are worth -/
def bitsVal (cs : List Nat) : Nat := cs.foldl (fun a c => 2 * a + (c - 48)) 0

theorem Bits.digits {cs : List Nat} (h : Bits cs) : AllDigits cs := fun c hc => by
  rcases h c hc with e | e <;> subst e <;> exact ⟨by decide, by decide⟩
theorem Bits.rev {cs : List Nat} (h : Bits cs) : Bits cs.reverse := fun c hc => h c (List.mem_reverse.mp hc)
theorem step2 {ds : Array Nat} {b : Bool} {c : Nat} (h : c = 48 ∨ c = 49) : PySem.NumText.step 2 (ds, b) c = some (ds.push (c - 48), true) := by
  rcases h with e | e <;> subst e <;> rfl
theorem fold2 : ∀ (cs : List Nat) (ds : Array Nat), Bits cs → List.foldlM (PySem.NumText.step 2) (ds, true) cs = some (List.foldl (fun acc c => acc.push (c - 48)) ds cs, true)
  | [], _, _ => rfl
  | c :: cs, ds, h => by
    rw [List.foldlM_cons, step2 (h c List.mem_cons_self)]
    exact fold2 cs (ds.push (c - 48)) fun d hd => h d (List.mem_cons_of_mem _ hd)
theorem digits2 {cs : List Nat} (h : Bits cs) (hne : cs ≠ []) : digits? 2 cs = some (List.foldl (fun acc c => acc.push (c - 48)) #[] cs) := by
  match cs, hne with
  | c :: r, _ =>
    unfold digits?
    rw [List.foldlM_cons, step2 (h c List.mem_cons_self)]
    have e := fold2 r ((#[] : Array Nat).push (c - 48)) fun d hd => h d (List.mem_cons_of_mem _ hd)
    show (List.foldlM (PySem.NumText.step 2) ((#[] : Array Nat).push (c - 48), true) r).bind _ = _
    rw [e]
    rfl
theorem pushed2 : ∀ (cs : List Nat) (ds : Array Nat), (List.foldl (fun acc c => acc.push (c - 48)) ds cs).foldl (fun acc d => acc * 2 + d) 0 =
    cs.foldl (fun a c => 2 * a + (c - 48)) (ds.foldl (fun acc d => acc * 2 + d) 0)
  | [], _ => rfl
  | c :: cs, ds => by
    rw [List.foldl_cons, pushed2 cs (ds.push (c - 48)), List.foldl_cons]
    congr 1
    simp [Nat.mul_comm]
theorem based2 {cs : List Nat} (h : Bits cs) : based 2 cs = (2, false, cs) := by
  match cs, h with
  | [], _ => rfl
  | [a], h =>
    rcases h a List.mem_cons_self with e | e <;> subst e <;> rfl
  | a :: c :: r, h =>
    have ha := h a List.mem_cons_self
    have hc := h c (List.mem_cons_of_mem _ List.mem_cons_self)
    rcases ha with e | e <;> rcases hc with e2 | e2 <;> subst e <;> subst e2 <;> rfl
theorem sign2 {cs : List Nat} (h : Bits cs) : sign cs = (false, cs) := by
  match cs, h with
  | [], _ => rfl
  | c :: r, h =>
    have := h c List.mem_cons_self
    exact sign_of (by omega) (by omega)
theorem read2 (limit : Nat) {cs : List Nat} (h : Bits cs) (hne : cs ≠ []) : (int_private% "readNumeral") limit 2 cs = (int_private% "Numeral.value") ((bitsVal cs : Nat) : Int) := by
  refine (readNumeral_eq limit 2 cs).trans ?_
  rw [dropWhile_digits h.digits, sign2 h]
  have e1 := based2 h
  show judge limit false (based 2 cs).1 (based 2 cs).2.1 (digits? (based 2 cs).1 (((based 2 cs).2.2.reverse.dropWhile blank).reverse)) = _
  rw [e1]
  show judge limit false 2 false (digits? 2 ((cs.reverse.dropWhile blank).reverse)) = _
  rw [dropWhile_digits h.rev.digits, List.reverse_reverse, digits2 h hne]
  have e2 := pushed2 cs #[]
  have z : (#[] : Array Nat).foldl (fun acc d => acc * 2 + d) 0 = 0 := by simp
  rw [z] at e2
  unfold judge
  dsimp only
  rw [e2]
  rfl
theorem seen2 {x : Str} (h : Bits x.cps.toList) : numTextOf x = x.cps.toList ∧ numSeenOf x = x.cps.toList :=
  numText_signs fun c hc => .inr (by have := h c hc; omega)

open PyProof.Rows in
theorem wp_maxDigits {M : Model} {A : Around} {E : Value → Shared → Prop} {s : Shared} {Q : Nat → Shared → Prop} (hn : s.heap.NoDigits) (h : Q 4300 s) : wpAny M A Builtin.intMaxStrDigits Q E s := by
  obtain ⟨mc, hns, hz⟩ := hn
  unfold Builtin.intMaxStrDigits
  refine wpAny_bind (wpAny_nsGet hns ?_)
  rw [hz]
  exact wpAny_pure h

theorem wp_text2 {M : Model} {A : Around} {E : Value → Shared → Prop} {s : Shared} {Q : Value → Shared → Prop} {v : Value} {text : List Nat} {n : Int}
    (hn : s.heap.NoDigits) (hr : ∀ limit, (int_private% "readNumeral") limit 2 (text.takeWhile (· != 0)) = (int_private% "Numeral.value") n)
    (ha : ((text.takeWhile (· != 0)).length == text.length) = true) (h : Q (.int n s.toks) { s with toks := s.toks + 1 }) :
    wpAny M A ((int_private% "intFromText") v text 2) Q E s := by
  obtain ⟨hp, g, d, tk, os⟩ := s
  by_cases hs : (text.takeWhile (· != 0)).length ≤ 640
  · exact Hx.wp_textB hs (hr 0) ha h
  · repeat (any_goals (first
      | assumption
      | (with_reducible refine wpAny_ite_false (decide_eq_false hs) ?_)
      | (with_reducible refine wpAny_ite_true (decide_eq_true ha) ?_)
      | ((with_reducible show wpAny _ _ Builtin.intMaxStrDigits _ _ _); refine wp_maxDigits hn ?_)
      | wp_step))
    all_goals (try rw [hr])
    all_goals (try dsimp only)
    repeat (any_goals (first
      | assumption
      | (with_reducible refine wpAny_ite_false (decide_eq_false hs) ?_)
      | (with_reducible refine wpAny_ite_true (decide_eq_true ha) ?_)
      | wp_step))

structure Held (p : Prop) : Prop where
  out : p
/-- what int(text, 2) wants of the state, and gives -/
def spec2 (n : Int) : Spec := fun _ R s => s.heap.NoDigits ∧ R (.ok (.ret (.int n s.toks))) { s with toks := s.toks + 1 }
set_option maxHeartbeats 4000000 in
theorem meets2 {x : PySem.Str} {u t : Tok} (h : Bits x.cps.toList) (hne : x.cps.toList ≠ []) :
    Meets (Builtin.«int.__new__» ⟨[.type "int", .str x u, .int 2 t], []⟩) (spec2 ((bitsVal x.cps.toList : Nat) : Int)) :=
  Meets.of_wp fun prog w A R s hQ => by
    obtain ⟨hp, g, d, tk, os⟩ := s
    have k1 := F.conv_sub_int
    have k2 := F.madeHere_int
    have k3 : typeOf (.str x u) = pure (.type "str") := rfl
    obtain ⟨e1, e2⟩ := seen2 h
    have hr : ∀ limit, (int_private% "readNumeral") limit 2 (numSeenOf x) = (int_private% "Numeral.value") ((bitsVal x.cps.toList : Nat) : Int) := by
      intro limit
      rw [e2]
      exact read2 limit h hne
    have ha : ((numSeenOf x).length == (numTextOf x).length) = true := by
      rw [e1, e2]
      exact beq_self_eq_true _
    have hk := Held.mk (And.intro hr (And.intro ha hQ))
    clear hr ha e1 e2 hne h hQ
    repeat (any_goals (first
      | assumption
      | ((with_reducible show wpAny _ _ ((int_private% "intFromText") _ _ _) _ _ _); refine wp_text2 hk.out.2.2.1 hk.out.1 hk.out.2.1 ?_)
      | wp_step))
    all_goals first | exact ⟨_, rfl, hk.out.2.2.2⟩ | skip
theorem call2 {prog : Program} {w : World} {A : Around} {E : Value → Shared → Prop} {s : Shared} {Q : Value → Shared → Prop} {x : PySem.Str} {u t : Tok} (hn : s.heap.NoDigits) (h : Bits x.cps.toList) (hne : x.cps.toList ≠ [])
    (hQ : Q (.int ((bitsVal x.cps.toList : Nat) : Int) s.toks) { s with toks := s.toks + 1 }) : wpAny (model prog w) A (call (.type "int") [.str x u, .int 2 t]) Q E s :=
  callType_new F.called_int F.newNe_int (Hx.typeCall_int_2 _ _) (Hx.newCall_int_2 _ _) (fun obj => F.initArgs_range_2 obj _ _) F.entry_int_new (meets2 h hne) ⟨hn, rfl, hQ⟩

/-- the facts of the written part: no limit on digits was set -/
theorem noDigits {K : PySem.W.Frag} {h : Heap} (X : K.In h) {mc : Str → Option Value} (G : h.Ns cStatics mc) (e : PySem.W.nsIn K cStatics "sys.int_max_str_digits" = some none) : h.NoDigits := by
  refine ⟨mc, G, ?_⟩
  obtain ⟨o, es, ep, ho, hd, _, hf⟩ := G
  unfold PySem.W.nsIn at e
  split at e
  · rename_i c d es' n' sl q
    have z := X _ _ q
    rw [ho] at z
    cases z
    cases hd
    split at e
    · exact nomatch e
    · rename_i hnone
      refine (hf "sys.int_max_str_digits").symm.trans ?_
      unfold nsFind
      unfold findBy
      rw [← Array.find?_toList, hnone]
      rfl
  · cases e
end XB
namespace L2
open PySem PySem.Spec PyProof.Rows
/-- int(text, 2), the text of binary signs -/
def rInt2 : List V → Hp → VK → Prop := fun xs H Q => ∃ x : Str, xs = [.str x, .int 2] ∧ XB.Bits x.cps.toList ∧ x.cps.toList ≠ [] ∧ Q (.int ((XB.bitsVal x.cps.toList : Nat) : Int)) H
theorem call_int2 {X : Cx} (e : PySem.W.nsIn X.K cStatics "sys.int_max_str_digits" = some none) : CallR X (.type "int") rInt2 := by
  intro pins s σ H xs us Q I r h
  obtain ⟨x, rfl, h1, h2, q⟩ := h
  obtain ⟨u, w', rfl, r1, r2⟩ := vals2 r
  obtain ⟨t1, rfl⟩ := r1
  obtain ⟨t2, rfl⟩ := r2
  obtain ⟨mc, G, _⟩ := I.nolimit
  exact XB.call2 (XB.noDigits I.kIn G e) h1 h2 ⟨.int _, H, I.tok _, ⟨_, rfl⟩, q⟩
end L2

namespace FG
open PySem PySem.Spec PyProof.Rows L2
/-! ### kinds of values -/
def intV : V → Bool
  | .int _ => true
  | _ => false
def figV : V → Bool
  | .int i => decide (-1 ≤ i) && decide (i ≤ 1)
  | _ => false
/-- what isinstance tells of a value: whether it is an int, a bool, a list -/
structure Kind (K : PySem.W.Frag) (H : Hp) (x : V) (i b l : Bool) : Prop where
  ex : ∃ t, TyX K H x t ∧ PySem.W.kitOne K t (.type "int") = some i ∧ PySem.W.kitOne K t (.type "bool") = some b ∧ PySem.W.kitOne K t (.type "list") = some l
section
variable {K : PySem.W.Frag} {H H' : Hp}
theorem same_upd {p : Addr} {o : HO} (h : H p = none) : Same H (upd H p o) := fun b x e => by
  have ne : b ≠ p := ne_of_none e h
  rw [upd_ne ne]
  exact e
theorem Same.tyx {x : V} {t : Value} (s : Same H H') (h : TyX K H x t) : TyX K H' x t := by
  cases h with
  | base b =>
    cases b with
    | non => exact .base .non
    | bl y => exact .base (.bl y)
    | int y => exact .base (.int y)
    | str y => exact .base (.str y)
    | flt y => exact .base (.flt y)
    | lst e => exact .base (.lst (s _ _ e))
    | frz e => exact .base (.frz (s _ _ e))
    | tup e => exact .base (.tup (s _ _ e))
    | dK e => exact .base (.dK (s _ _ e))
    | dT e => exact .base (.dT (s _ _ e))
    | ins e a b c d f => exact .base (.ins (s _ _ e) a b c d f)
  | byt y => exact .byt y
  | set e => exact .set (s _ _ e)
  | kList e c => exact .kList e c
  | kTuple e c => exact .kTuple e c
  | kDict e c => exact .kDict e c
  | fTuple e => exact .fTuple (s _ _ e)
  | fDict e => exact .fDict (s _ _ e)
theorem Kind.mono {x : V} {i b l : Bool} (k : Kind K H x i b l) (s : Same H H') : Kind K H' x i b l := by
  obtain ⟨t, h1, h2⟩ := k.ex
  exact ⟨⟨t, Same.tyx s h1, h2⟩⟩
theorem kind_of {x : V} {n : String} {i b l : Bool} (h : TyX K H x (.type n)) (h1 : kitB n "int" = some i) (h2 : kitB n "bool" = some b) (h3 : kitB n "list" = some l) : Kind K H x i b l :=
  ⟨⟨_, h, kit_ty h1, kit_ty h2, kit_ty h3⟩⟩
theorem kind_int (i : Int) : Kind K H (.int i) true false false := kind_of (.base (.int i)) (by decide +kernel) (by decide +kernel) (by decide +kernel)
theorem kind_bl (b : Bool) : Kind K H (.bl b) true true false := kind_of (.base (.bl b)) (by decide +kernel) (by decide +kernel) (by decide +kernel)
theorem kind_non : Kind K H .non false false false := kind_of (.base .non) (by decide +kernel) (by decide +kernel) (by decide +kernel)
theorem kind_str (x : Str) : Kind K H (.str x) false false false := kind_of (.base (.str x)) (by decide +kernel) (by decide +kernel) (by decide +kernel)
theorem kind_list {a : Addr} {xs : List V} (h : SqL K H a xs) : Kind K H (.ref a) false false true := by
  have z : TyX K H (.ref a) (.type "list") := by
    rcases h with h | ⟨o, its, n, hk, hc, _⟩
    · rcases h with h | ⟨o, h⟩
      · exact .base (.lst h)
      · exact .base (.frz h)
    · exact .kList hk hc
  exact kind_of z (by decide +kernel) (by decide +kernel) (by decide +kernel)
theorem kind_tup {a : Addr} {xs : List V} (h : H a = some (.tup xs)) : Kind K H (.ref a) false false false := kind_of (.base (.tup h)) (by decide +kernel) (by decide +kernel) (by decide +kernel)
theorem kind_dict {a : Addr} {kvs : List (Key × V)} (h : H a = some (.dK kvs)) : Kind K H (.ref a) false false false := kind_of (.base (.dK h)) (by decide +kernel) (by decide +kernel) (by decide +kernel)
/-- an int that is no bool: just the whole numbers -/
def Plain (K : PySem.W.Frag) (H : Hp) (x : V) : Prop := ∃ i b l, Kind K H x i b l ∧ (i && !b) = intV x
theorem Plain.mono {x : V} (h : Plain K H x) (s : Same H H') : Plain K H' x := let ⟨i, b, l, k, e⟩ := h; ⟨i, b, l, k.mono s, e⟩
theorem plain_int (i : Int) : Plain K H (.int i) := ⟨_, _, _, kind_int i, rfl⟩
theorem atI_getLast (xs : List V) (h : xs ≠ []) : atI xs (-1) = some (xs.getLast h) := by
  have e := atI_last xs.dropLast (xs.getLast h)
  rw [List.dropLast_concat_getLast] at e
  exact e
end

/-! ### rows of figures -/
/-- a row: figures alone, the last one other than 0 -/
def Row (ns : List Int) : Prop := (∀ n ∈ ns, -1 ≤ n ∧ n ≤ 1) ∧ ns.getLast? ≠ some 0
/-- what a row is worth -/
def val : List Int → Int
  | [] => 0
  | n :: r => n + 2 * val r
/-- the worth of a row's figures f alone, told by ones -/
def mk (f : Int) : List Int → Nat
  | [] => 0
  | n :: r => (if n = f then 1 else 0) + 2 * mk f r
theorem mk_val : ∀ ns : List Int, (∀ n ∈ ns, -1 ≤ n ∧ n ≤ 1) → ((mk 1 ns : Nat) : Int) - ((mk (-1) ns : Nat) : Int) = val ns
  | [], _ => rfl
  | n :: r, h => by
    have ih := mk_val r fun m hm => h m (List.mem_cons_of_mem _ hm)
    have hn := h n List.mem_cons_self
    show (((if n = 1 then 1 else 0) + 2 * mk 1 r : Nat) : Int) - (((if n = -1 then 1 else 0) + 2 * mk (-1) r : Nat) : Int) = n + 2 * val r
    have c : n = -1 ∨ n = 0 ∨ n = 1 := by omega
    rcases c with e | e | e <;> subst e <;> simp <;> omega
/-- the sign of a figure, asked for f -/
def sg (f n : Int) : Nat := if n = f then 49 else 48
theorem sg_bits (f : Int) (ns : List Int) : XB.Bits (48 :: ns.map (sg f)) := fun c hc => by
  rcases List.mem_cons.mp hc with e | e
  · exact .inl e
  · obtain ⟨n, _, e⟩ := List.mem_map.mp e
    subst e
    unfold sg
    split
    · exact .inr rfl
    · exact .inl rfl
theorem sg_val (f : Int) (ns : List Int) : XB.bitsVal (48 :: (ns.reverse.map (sg f))) = mk f ns := by
  unfold XB.bitsVal
  rw [List.foldl_cons, List.map_reverse, List.foldl_reverse]
  induction ns with
  | nil => rfl
  | cons n r ih =>
    rw [List.map_cons, List.foldr_cons, ih]
    show 2 * mk f r + (sg f n - 48) = (if n = f then 1 else 0) + 2 * mk f r
    unfold sg
    split <;> omega
/-! ### texts of signs -/
def sign1 (c : Nat) : Str := ⟨#[c]⟩
theorem joinL_nil : ∀ ls : List (List Nat), TL.joinL [] ls = ls.flatten
  | [] => rfl
  | [p] => by simp [TL.joinL]
  | p :: q :: r => by
    have ih := joinL_nil (q :: r)
    show p ++ ([] ++ TL.joinL [] (q :: r)) = (p :: q :: r).flatten
    rw [ih]
    simp
theorem joined_signs (e : Str) (he : e.cps.toList = []) (cs : List Nat) : (Txt.join e (cs.map sign1)).cps.toList = cs := by
  have h := TL.tl_join e (cs.map sign1)
  rw [← TL.join_eq] at h
  have h0 : TL.tl e = [] := he
  rw [h0, joinL_nil, List.map_map] at h
  refine Eq.trans h ?_
  induction cs with
  | nil => rfl
  | cons c r ih =>
    have h' := TL.tl_join e (r.map sign1)
    rw [← TL.join_eq, h0, joinL_nil, List.map_map] at h'
    rw [List.map_cons, List.flatten_cons, ih h']
    rfl
theorem app_list (a b : Str) : (a ++ b).cps.toList = a.cps.toList ++ b.cps.toList := by
  show (a.cps ++ b.cps).toList = _
  simp

/-! ### lists of whole numbers compared -/
def dI (ns : List Int) : PyData := .list (ns.map PyData.int)
theorem dI_depthAll : ∀ ns : List Int, PyData.depthAll (ns.map PyData.int) ≤ 1
  | [] => by simp [PyData.depthAll]
  | n :: r => by
    have ih := dI_depthAll r
    simp only [List.map_cons, PyData.depthAll, PyData.depth]
    omega
theorem dI_lay : ∀ ns : List Int, PyData.canLayAll0 (ns.map PyData.int) = true
  | [] => by simp [PyData.canLayAll0]
  | n :: r => by
    have ih := dI_lay r
    simp [PyData.canLayAll0, PyData.canLay0, ih]
theorem dI_shaped (ns : List Int) : SeqAt.shaped (dI ns) = true := by
  have h1 := dI_depthAll ns
  have h2 : PyData.depth (dI ns) ≤ 64 := by
    simp only [dI, PyData.depth]
    omega
  unfold SeqAt.shaped
  rw [Bool.and_eq_true]
  exact ⟨by simp only [dI, PyData.canLay0]; exact dI_lay ns, decide_eq_true h2⟩
theorem dI_eqvAll : ∀ ns ms : List Int, PyData.eqvAll (ns.map PyData.int) (ms.map PyData.int) = decide (ns = ms)
  | [], [] => by simp [PyData.eqvAll]
  | [], _ :: _ => by simp [PyData.eqvAll]
  | _ :: _, [] => by simp [PyData.eqvAll]
  | n :: r, m :: t => by
    have ih := dI_eqvAll r t
    simp only [List.map_cons, PyData.eqvAll, PyData.eqv, ih]
    by_cases h1 : n = m
    · by_cases h2 : r = t
      · simp [h1, h2]
      · simp [h1, h2]
    · simp [h1]
theorem dI_eqv (ns ms : List Int) : PyData.eqv (dI ns) (dI ms) = decide (ns = ms) := by
  show PyData.eqvAll _ _ = _
  exact dI_eqvAll ns ms
theorem dpAll {K : PySem.W.Frag} {H : Hp} : ∀ ns : List Int, DpAll K H (ns.map V.int) (ns.map PyData.int)
  | [] => .nil
  | n :: r => .cons (.int n) (dpAll r)
theorem dp_ints {K : PySem.W.Frag} {H : Hp} {a : Addr} {ns : List Int} (h : SqL K H a (ns.map V.int)) : Dp K H (.ref a) (dI ns) := .lst h (dpAll ns)
/-- the item behind the last but none: xs[-1:] -/
theorem cutLast (ns : List Int) : cutV (ns.map V.int) (some (-1)) none = (ns.drop (ns.length - 1)).map V.int := by
  have e : HT.sIx (ns.map V.int).length 0 (some (-1)) = ns.length - 1 := by
    show (if (-1 : Int) < 0 then ((-1 : Int) + ((ns.map V.int).length : Int)).toNat else min (-1 : Int).toNat (ns.map V.int).length) = _
    rw [if_pos (by decide), List.length_map]
    show ((-1 : Int) + (ns.length : Int)).toNat = ns.length - 1
    omega
  unfold cutV
  rw [e, HT.sIx_none, List.map_drop]
  apply List.take_of_length_le
  rw [List.length_drop, List.length_map]
  omega
theorem last_zero {ns : List Int} (h : ns.getLast? ≠ some 0) : ns.drop (ns.length - 1) ≠ [0] := fun e => by
  apply h
  rw [List.getLast?_eq_getElem?]
  have z := congrArg (fun l => l[0]?) e
  simp only [List.getElem?_drop] at z
  simpa using z
theorem val_append : ∀ (a b : List Int), val (a ++ b) = val a + 2 ^ a.length * val b
  | [], b => by simp [val]
  | n :: r, b => by
    have ih := val_append r b
    show n + 2 * val (r ++ b) = n + 2 * val r + 2 ^ (r.length + 1) * val b
    rw [ih, Int.pow_succ, Int.mul_add]
    have : (2 : Int) ^ r.length * 2 * val b = 2 * (2 ^ r.length * val b) := by
      rw [Int.mul_comm ((2 : Int) ^ r.length) 2, Int.mul_assoc]
    omega
theorem val_take {ns : List Int} {i : Nat} (h : i < ns.length) : val (ns.take (i + 1)) = val (ns.take i) + ns[i] * 2 ^ i := by
  rw [List.take_add_one, List.getElem?_eq_getElem h, val_append]
  have e : (ns.take i).length = i := by
    rw [List.length_take]
    omega
  rw [e]
  show _ + 2 ^ i * (ns[i] + 2 * 0) = _
  rw [Int.mul_zero, Int.add_zero, Int.mul_comm]

/-- a loop over enumerate of a list: Inv by the turn -/
theorem for_enum {K : PySem.W.Frag} {a : Addr} {xs : List V} {g : TG} {tb : TS} {D : Ends} {σ : L2.St} {H : Hp} (Iv : Nat → L2.St → Hp → Prop) (start : Iv 0 σ H) (still : ∀ i σ H, Iv i σ H → SqL K H a xs)
    (turn : ∀ (i : Nat) (x : V) (t : Addr) (σ : L2.St) (H : Hp), xs[i]? = some x → Iv i σ H → H t = none → g (.ref t) σ (upd H t (.tup [.int (i : Nat), x])) fun σ2 H2 => tb { D with nx := Iv (i + 1), ct := Iv (i + 1), bk := D.nx } σ2 H2)
    (stop : ∀ σ H, Iv xs.length σ H → D.nx σ H) :
    ∃ W : Nat → Nat → L2.St → Hp → Prop, (∃ m, W 0 m σ H) ∧ ∀ i m σ H, W i m σ H →
      ((Ite K a).stop i H ∧ D.nx σ H) ∨ ((Ite K a).go i H ∧ ∃ N : L2.St → Hp → Prop, (∀ σ' H', N σ' H' → ∃ m', m' < m ∧ W (i + 1) m' σ' H') ∧ ∀ v H', (Ite K a).yld i H v H' → g v σ H' fun σ2 H2 => tb { D with nx := N, ct := N, bk := D.nx } σ2 H2) := by
  refine ⟨fun i m σ H => i + m = xs.length ∧ Iv i σ H, ⟨xs.length, Nat.zero_add _, start⟩, fun i m σ H hW => ?_⟩
  obtain ⟨em, iv⟩ := hW
  have sq := still i σ H iv
  by_cases hi : i < xs.length
  · refine .inr ⟨⟨xs, xs[i], sq, List.getElem?_eq_getElem hi⟩, Iv (i + 1), fun σ' H' h' => ⟨m - 1, by omega, by omega, h'⟩, fun v H' hy => ?_⟩
    obtain ⟨t, x, rfl, nt, rfl, fx⟩ := hy
    exact turn i x t σ H (fx _ sq) iv nt
  · have e : i = xs.length := by omega
    subst e
    exact .inl ⟨⟨xs, sq, Nat.le_refl _⟩, stop σ H iv⟩
theorem small_ok {n : Nat} (h : n ≤ 64) : n ≤ sizeLine := Nat.le_trans h (by decide)
/-- of each two neighbours one is 0 -/
def gaps : List Int → Bool
  | x :: y :: r => (decide (x = 0) || decide (y = 0)) && gaps (y :: r)
  | _ => true
/-- a row is handed in at a -/
def RowAt (K : PySem.W.Frag) (H : Hp) (a : Addr) (ns : List Int) : Prop := SqL K H a (ns.map V.int) ∧ Row ns ∧ ns.length ≤ 4000000
theorem RowAt.mono {K : PySem.W.Frag} {H H' : Hp} {a : Addr} {ns : List Int} (r : RowAt K H a ns) (s : Same H H') : RowAt K H' a ns := ⟨s.seq r.1, r.2⟩
end FG

/-! an f-string with the field {n:b} -/
namespace XB
open PySem PySem.Calls PySem.W Builtin Builtin.Int Builtin.Float PyProof.Rows

/-- the signs of a number at twos, a minus ahead -/
def binSigns (a : Int) : List Nat := (if decide (a < 0) = true then [45] else []) ++ (Nat.toDigits 2 a.natAbs).map Char.toNat
def binText (a : Int) : PySem.Str := ⟨(binSigns a).toArray⟩

theorem toDigits_ne (n : Nat) : (Nat.toDigits 2 n).isEmpty = false := by
  cases e : Nat.toDigits 2 n with
  | cons c r => rfl
  | nil => 
    have := Nat.toDigits_ne_nil (n := n) (b := 2)
    exact absurd e this

/-- a field without width, fill or sign -/
theorem plainField (f : FormatSpec) (a : Int) (hd : (Nat.toDigits 2 a.natAbs).isEmpty = false) (h1 : f.width = none) (h2 : f.sign = none) (h3 : f.grouping = none) (h4 : f.align = 62) (h5 : f.fill = 32) :
    intField' f (decide (a < 0)) [] ((Nat.toDigits 2 a.natAbs).map fun c => (if (98 : Nat) == 88 then c.toUpper else c).toNat) [] 4 = binText a := by
  have e0 : ((Nat.toDigits 2 a.natAbs).map fun c => (if (98 : Nat) == 88 then c.toUpper else c).toNat) = (Nat.toDigits 2 a.natAbs).map Char.toNat := rfl
  rw [e0]
  have e1 : ((Nat.toDigits 2 a.natAbs).map Char.toNat).isEmpty = false := by simpa using hd
  unfold intField' binText binSigns
  simp only [h1, h2, h3, h4, h5, e1]
  by_cases hn : a < 0
  · simp [hn]
  · simp [hn]

set_option maxHeartbeats 4000000 in
theorem meets_b (a : Int) (t u : Tok) (hl : (binText a).length ≤ sizeLine) : Meets (Builtin.«int.__format__» ⟨[.int a t, .str (Str.ofString "b") u], []⟩) (fun _ R s => ∀ t' k, R (.ok (.ret (.str (binText a) t'))) { s with toks := k }) := by
  apply KPc.meets_of
  intro prog w A R s Q hQ
  unfold Builtin.«int.__format__»
  refine wpAny_bind (wpAny_of_eq (a := (_, _)) rfl ?_)
  refine wpAny_bind (wpAny_of_eq (a := a) rfl ?_)
  kxf_if
  refine wpAny_bind (wpAny_typeNameOf (T := "str") (typeIs_str _ _ _) (by decide) fun _ => ?_)
  refine wpAny_bind (wpAny_of_eq (a := some _) rfl ?_)
  kxf_if
  kxf_if
  refine wpAny_bind (wpAny_typeNameOfCut_int ?_)
  have ep : ∃ f, parseFormatSpec (Str.ofString "b").cps.toList "int" 62 = .ok f ∧ f.type = some 98 ∧ f.precision = none ∧ f.noNeg0 = false ∧ f.width = none ∧ f.alt = false ∧ f.sign = none ∧ f.grouping = none ∧ f.align = 62 ∧ f.fill = 32 := ⟨_, rfl, rfl, rfl, rfl, rfl, rfl, rfl, rfl, rfl, rfl⟩
  obtain ⟨f, e0, e1, e2, e3, e4, e5, e6, e7, e8, e9⟩ := ep
  have hf := fun hd => plainField f a hd e4 e6 e7 e8 e9
  have hd := toDigits_ne a.natAbs
  rw [e0]
  dsimp only
  rw [e1]
  kxf_if
  cases f
  dsimp only at e1 e2 e3 e4 e5 e6 e7 e8 e9
  subst e1 e2 e3 e4 e5 e6 e7 e8 e9
  exact KXf.ret_text (hf hd) (Nat.le_trans (Nat.le_of_eq (congrArg PySem.Str.length (hf hd))) hl) hQ
theorem field_b {prog : Program} {w : World} {A : Around} {E : Value → Shared → Prop} {s : Shared} {Q : Value → Shared → Prop} {a : Int} {t : Tok} (hl : (binText a).length ≤ sizeLine)
    (h : ∀ t' k, Q (.str (binText a) t') { s with toks := k }) : wpAny (model prog w) A (formatField (.int a t) (Str.ofString "b")) Q E s :=
  KXf.field_int rfl (by decide +kernel) (by decide +kernel) (fun u => meets_b a t u hl) h
end XB
namespace L2
open PySem PySem.Spec PyProof.Rows
/-- {n:b}: a whole number at twos -/
def tFmtB (te : TE) : TE := fun σ H Q => te σ H fun x H1 => ∃ i : Int, x = .int i ∧ (XB.binText i).length ≤ sizeLine ∧ Q (.str (XB.binText i)) H1
theorem pe_fmtB {X : Cx} {e : Expr} {te : TE} {pos p1 p2 : Pos} {k : Nat} (he : PE X e te) : PE X (.FormattedValue e (-1) (some (.JoinedStr [.Constant (.str (Str.ofString "b")) k p1] p2)) pos) (tFmtB te) := by
  refine ⟨fun pins s σ H Q I h => ?_⟩
  refine wpAny_FormattedValue_spec (thn (he.run pins s σ H _ I h) fun v s1 hv => ?_)
  obtain ⟨x, H1, I1, r1, i, rfl, hz, q⟩ := hv
  obtain ⟨t, rfl⟩ := r1
  refine wpAny_JoinedStr_one (Calls.Constant_str ⟨_, _, rfl, ?_⟩)
  exact XB.field_b hz fun t' k' => ⟨.str (XB.binText i), H1, I1.tok _, ⟨_, rfl⟩, q⟩
end L2

/-! text[::-1] -/
namespace L2
open PySem PySem.Spec PyProof.Rows PySem.Builtin PySem.Builtin.Str
/-- the signs of a text, turned round -/
theorem turned_list (x : Str) (u : Tok) : (Txt.sliceBy x none none (-1, u)).cps.toList = x.cps.toList.reverse := by
  rw [step_rev_list]
  apply List.ext_getElem
  · rw [List.length_map, List.length_range, List.length_reverse, Array.length_toList]
    rfl
  · intro i h1 h2
    have hi : i < x.cps.size := by simpa using h2
    have e : x.length = x.cps.size := rfl
    rw [List.getElem_map, List.getElem_range, List.getElem_reverse, e]
    have hj : x.cps.size - 1 - i < x.cps.size := by omega
    simp [Array.getD, hj]
def tRevT (te : TE) : TE := fun σ H Q => te σ H fun x H1 => ∃ z : Str, x = .str z ∧ z.length ≤ sizeLine ∧ ∀ y : Str, y.cps.toList = z.cps.toList.reverse → Q (.str y) H1
theorem pe_revT {X : Cx} {e : Expr} {te : TE} {k : Nat} {p1 p2 p3 pos : Pos} (he : PE X e te) : PE X (.Subscript e (.Slice none none (some (.UnaryOp .USub (.Constant (.int 1) k p1) p2)) p3) pos) (tRevT te) := by
  refine ⟨fun pins s σ H Q I h => ?_⟩
  refine Subscript_ (thn (he.run pins s σ H _ I h) fun v s1 ⟨x, H1, I1, r1, z, ex, hz, q⟩ => ?_)
  subst ex
  obtain ⟨t, rfl⟩ := r1
  have hst : PO X (some (.UnaryOp .USub (.Constant (.int 1) k p1) p2)) (tPart (tUn (rU fun i => .int (-i)) (tC (.int 1)))) := po_some (pe_un un_neg pe_int)
  refine wpAny_Slice (thn (po_none.run pins s1 σ H1 (fun o H2 => o = none ∧ H2 = H1) I1 ⟨rfl, rfl⟩) fun vl s2 ⟨l, H2, I2, pl, el, e2⟩ => ?_)
  subst el
  subst e2
  refine thn (po_none.run pins s2 σ H2 (fun o H3 => o = none ∧ H3 = H2) I2 ⟨rfl, rfl⟩) fun vu s3 ⟨u, H3, I3, pu, eu, e3⟩ => ?_
  subst eu
  subst e3
  refine thn (hst.run pins s3 σ H3 (fun o H4 => o = some (-1) ∧ H4 = H3) I3 ⟨1, rfl, -1, rfl, rfl, rfl⟩) fun vs s4 ⟨o, H4, I4, ps, eo, e4⟩ => ?_
  subst eo
  subst e4
  obtain ⟨l', h1, h2⟩ := IsPart.raw pl
  obtain ⟨u', h3, h4⟩ := IsPart.raw pu
  obtain ⟨st', h5, h6⟩ := IsPart.raw ps
  cases l' with
  | some y => exact nomatch h2
  | none =>
    cases u' with
    | some y => exact nomatch h4
    | none =>
      cases st' with
      | none => exact nomatch h6
      | some y =>
        obtain ⟨j, tj⟩ := y
        have ej : j = -1 := Option.some.inj h6
        subst ej
        subst h1
        subst h3
        subst h5
        have I5 : Inv X pins σ H4 { s4 with heap := s4.heap.push { cls := .type "slice", data := .fields #[.none, .none, .int (-1) tj] } } := I4.kept (t' := s4.toks) fun b ob g => Heap.get?_push_of_some _ g
        refine tail_any (ops := [.ref s4.heap.objs.size, .str z t]) (typeIs_str _ _ _) PySem.F.slot_str_getitem.lookup ?_ (by with_unfolding_all rfl)
        refine wpAny_getItem_str_slice (l := none) (u := none) (st := some (-1, tj)) ⟨_, Heap.get?_push_size _ rfl, rfl, rfl⟩ rfl ?_
        refine post_val_or_str ⟨Nat.le_trans (Txt.sliceBy_le z none none (-1, tj) (show (-1 : Int) ≠ 0 by decide)) hz, fun t' c => ?_⟩
        exact ⟨.str (Txt.sliceBy z none none (-1, tj)), H4, I5.tok _, ⟨_, rfl⟩, q _ (turned_list z tj)⟩
end L2

set_option maxHeartbeats 4000000
/-! for a, b in zip(x, y), x and y two texts -/
namespace FG
open PySem PySem.Spec PyProof.Rows L2
/-- two texts, sign by sign, the signs in new pairs -/
def ItzS (x y : Str) : It :=
  ⟨fun i _ => i < x.cps.size ∧ i < y.cps.size, fun i H v H' => ∃ t c d, v = .ref t ∧ H t = none ∧ H' = upd H t (.tup [.str (sign1 c), .str (sign1 d)]) ∧ x.cps[i]? = some c ∧ y.cps[i]? = some d,
    fun i _ => x.cps.size ≤ i ∨ y.cps.size ≤ i⟩
/-- where the zip stands at its turn -/
def StzS (z q1 q2 i1 i2 : Addr) (x y : Str) (t u : Tok) (i : Nat) (h : Heap) : Prop :=
  i ≤ x.cps.size ∧ i ≤ y.cps.size ∧ IsZip h z q1 q2 .none ∧ IsTupOf2 h q1 (.ref i1) (.ref i2) ∧ (∃ a b, IsTupOf2 h q2 a b) ∧ h.IsStrIter i1 (strIterType x) x t i ∧ h.IsStrIter i2 (strIterType y) y u i
theorem turn_zipS {P : Program} {w : World} {K : PySem.W.Frag} {elts : List Expr} {kk : Nat} {tpos : Pos} {z q1 q2 i1 i2 : Addr} {x y : Str} {t u : Tok} (D : ZipSep2 z q1 q2 i1 i2 [i1] [i2]) :
    Turn P w K (.Tuple elts kk tpos) (ItzS x y) [z, q1, q2, i1, i2] z (StzS z q1 q2 i1 i2 x y t u) where
  mem := by simp
  obj := fun i h st c hc => by
    obtain ⟨_, _, hz, h1, ⟨a, b, h2⟩, ⟨o1, g1, _, d1⟩, ⟨o2, g2, _, d2⟩⟩ := st
    have hc' : c = z ∨ c = q1 ∨ c = q2 ∨ c = i1 ∨ c = i2 := by simpa using hc
    rcases hc' with e | e | e | e | e <;> subst e
    · exact ⟨_, hz, fun v q => nomatch q⟩
    · exact ⟨_, h1, fun v q => nomatch q⟩
    · exact ⟨_, h2, fun v q => nomatch q⟩
    · exact ⟨o1, g1, fun v q => by rw [d1] at q; exact nomatch q⟩
    · exact ⟨o2, g2, fun v q => by rw [d2] at q; exact nomatch q⟩
  keep := fun i h h' st k => by
    obtain ⟨l1, l2, hz, h1, ⟨a, b, h2⟩, g1, g2⟩ := st
    obtain ⟨o1, e1, r1⟩ := g1
    obtain ⟨o2, e2, r2⟩ := g2
    exact ⟨l1, l2, k z (by simp) _ hz, k q1 (by simp) _ h1, ⟨a, b, k q2 (by simp) _ h2⟩, ⟨o1, k i1 (by simp) _ e1, r1⟩, ⟨o2, k i2 (by simp) _ e2, r2⟩⟩
  item := by
    intro X hP hw hK hc i pins s σ H E I hf st hg
    subst hP
    subst hw
    subst hK
    obtain ⟨l1, l2, hz, h1, ⟨a, b, h2⟩, g1, g2⟩ := st
    have hh := I.ok.hd hc
    have zl : z < s.heap.objs.size := Heap.lt_size hz
    refine wpAny_pyNext_zipD2_item D (Draws.text (A := X.A.in1) hh i1 x t) (Draws.text (A := X.A.in1) hh i2 y u) hz h1 h2 g1 g2 hg.1 hg.2 fun v1 v2 h' tk p1 p2 z' h2' g1' g2' hT hsz hk => ?_
    obtain ⟨c, u1, ec, rfl⟩ := p1
    obtain ⟨d, u2, ed, rfl⟩ := p2
    refine ⟨_, rfl, wpAny_letOwnedTupleGo_zip (s := { s with heap := h', toks := tk }) z' fun h'' z'' sb => ?_⟩
    have far : s.heap.objs.size ≠ z := Nat.ne_of_gt zl
    have hT2 := (sb.2 _ far).trans hT
    have new : ObjOk X.prog X.w (upd H s.heap.objs.size (.tup [.str (sign1 c), .str (sign1 d)])) h'' s.heap.objs.size (.tup [.str (sign1 c), .str (sign1 d)]) :=
      ⟨small_ok (by simp), [_, _], .cons ⟨u1, rfl⟩ (.cons ⟨u2, rfl⟩ .nil), ⟨_, hT2, rfl, _, rfl⟩⟩
    have I1 : Inv X pins σ (upd H s.heap.objs.size (.tup [.str (sign1 c), .str (sign1 d)])) { s with heap := h'', toks := tk } :=
      I.turnedNew (t' := tk) (ch := [z, q1, q2, i1, i2]) (fun b o hb e => (sb.2 b fun r => hb (by simp [r])).trans (hk b o (fun r => hb (by simp [r])) (fun r => hb (by simp [r])) (fun r => hb (by simp [r])) (fun r => hb (by simp [r])) e)) hf (Nat.le_refl _) new
    have keepI : ∀ {j : Addr} {w : Str} {v : Tok} {m : Nat}, j ≠ z → h'.IsStrIter j (strIterType w) w v m → h''.IsStrIter j (strIterType w) w v m := fun nj ⟨o, e, r⟩ => ⟨o, (sb.2 _ nj).trans e, r⟩
    refine ⟨.ref s.heap.objs.size, _, I1, rfl, ⟨_, c, d, rfl, I.hok.fresh (Nat.le_refl _), rfl, ec, ed⟩, ⟨hg.1, hg.2, z'', ?_, ⟨.str ⟨#[c]⟩ u1, .str ⟨#[d]⟩ u2, ?_⟩, keepI D.zi1.symm g1', keepI D.zi2.symm g2'⟩, fun b hb => ?_⟩
    · exact (sb.2 _ D.TIz).trans (hk _ _ D.TIz D.TITO D.TIi1 D.TIi2 h1)
    · exact (sb.2 _ D.TOz).trans h2'
    · have lb : b < s.heap.objs.size := by
        obtain ⟨o1, e1, _⟩ := g1
        obtain ⟨o2, e2, _⟩ := g2
        have hb' : b = z ∨ b = q1 ∨ b = q2 ∨ b = i1 ∨ b = i2 := by simpa using hb
        rcases hb' with r | r | r | r | r <;> rw [r]
        · exact zl
        · exact Heap.lt_size h1
        · exact Heap.lt_size h2
        · exact Heap.lt_size e1
        · exact Heap.lt_size e2
      rw [upd_ne (Nat.ne_of_lt lb)]
      exact (hf b hb).1
  done := by
    intro X hP hw hK hc i pins s σ H E I hf st hg
    subst hP
    subst hw
    subst hK
    obtain ⟨l1, l2, hz, h1, ⟨a, b, h2⟩, g1, g2⟩ := st
    have hh := I.ok.hd hc
    have he : i = x.cps.size ∨ i = y.cps.size := by
      rcases hg with e | e
      · exact .inl (Nat.le_antisymm l1 e)
      · exact .inr (Nat.le_antisymm l2 e)
    exact wpAny_pyNext_zipD2_end D (Draws.text (A := X.A.in1) hh i1 x t) (Draws.text (A := X.A.in1) hh i2 y u) hz h1 h2 g1 g2 l1 l2 he fun h' tk hk => ⟨rfl, I.turnedL (t' := tk) (ch := [z, q1, q2, i1, i2]) (fun c o hb e =>
      hk c o (fun r => hb (by simp [r])) (fun r => hb (by simp [r])) (fun r => hb (by simp [r])) (fun r => hb (by simp [r])) e) hf⟩
  self := fun A i s Q E st h => wpAny_pyIter_zip st.2.2.1 h
def iZipS (ta : TA) : TI := fun σ H R => ta σ H fun vs H1 => ∃ x y : Str, vs = [.str x, .str y] ∧ R (ItzS x y) H1
theorem pi_zipS {X : Cx} {e e2 : Expr} {ta : TA} {p pos tpos : Pos} {elts : List Expr} {kk : Nat} (hg : Gl X "zip") (hm : X.mg "zip" = none) (ha : PA X [e, e2] ta)
    (hs : starEach [e, e2] X.env = (false, eval e X.env) :: starEach [e2] X.env := by rfl) (hpl : (backTo pos (starEach [e2] X.env)).any (·.1) = false := by rfl) :
    PI X (.Tuple elts kk tpos) (.Call (.Name "zip" p) [e, e2] [] pos) (iZipS ta) := by
  refine ⟨fun pins s σ H R I h => ?_⟩
  refine Call_ (ld_blt I hg hm PyProof.Rows.boot_zip (PyProof.Rows.callWith_type1 (thn (ha.run pos pins s σ H _ I h) fun us s1 ⟨vs, H1, I1, r1, x, y, ev, q⟩ => ?_) hs hpl))
  subst ev
  obtain ⟨v1, v2, rfl, g1, g2⟩ := vals2 r1
  obtain ⟨t, rfl⟩ := g1
  obtain ⟨u, rfl⟩ := g2
  refine zip_begins2 (begins_text x t) (begins_text y u) trivial trivial fun h' hz h1 h2 e1 e2 hsz hk => wpAny_pyIter_zip hz ?_
  have I2 : Inv X pins σ H1 { s1 with heap := h' } := I1.kept (t' := s1.toks) hk
  have D : ZipSep2 (s1.heap.objs.size + 4) (s1.heap.objs.size + 2) (s1.heap.objs.size + 3) s1.heap.objs.size (s1.heap.objs.size + 1) [s1.heap.objs.size] [s1.heap.objs.size + 1] :=
    zip_sep2 (N := s1.heap.objs.size) (fp1 := []) (fp2 := []) (fun b hb => nomatch hb) (fun b hb => nomatch hb)
  refine ⟨s1.heap.objs.size + 4, [s1.heap.objs.size + 4, s1.heap.objs.size + 2, s1.heap.objs.size + 3, s1.heap.objs.size, s1.heap.objs.size + 1], _, _, H1, rfl, I2, turn_zipS (x := x) (y := y) (t := t) (u := u) D,
    ⟨Nat.zero_le _, Nat.zero_le _, hz, h1, ⟨_, _, h2⟩, ⟨_, e1, rfl, rfl⟩, ⟨_, e2, rfl, rfl⟩⟩, fun b hb => ?_, q⟩
  have hb' : b = s1.heap.objs.size + 4 ∨ b = s1.heap.objs.size + 2 ∨ b = s1.heap.objs.size + 3 ∨ b = s1.heap.objs.size ∨ b = s1.heap.objs.size + 1 := by simpa using hb
  have lb : s1.heap.objs.size ≤ b := by
    rcases hb' with r | r | r | r | r <;> rw [r]
    · exact Nat.le_add_right _ _
    · exact Nat.le_add_right _ _
    · exact Nat.le_add_right _ _
    · exact Nat.le_refl _
    · exact Nat.le_add_right _ _
  exact I1.fpOk lb (I1.hok.fresh lb)
end FG

namespace FG
open PySem PySem.Spec PyProof.Rows L2
/-- list + list, each one a list that is read, the script too -/
def rCatS (K : PySem.W.Frag) : R2 := fun x y H Q => ∃ l b xs zs, x = .ref l ∧ y = .ref b ∧ SqL K H l xs ∧ SqL K H b zs ∧ xs.length + zs.length ≤ sizeLine ∧ ∀ p, H p = none → Q (.ref p) (upd H p (.lst (xs ++ zs)))
theorem op_catS {X : Cx} : OpR X (binaryOp .Add) (rCatS X.K) := by
  intro pins s σ H x y v u Q I rx ry h
  obtain ⟨l, b, xs, zs, rfl, rfl, h1, h2, hz, q⟩ := h
  cases rx
  cases ry
  obtain ⟨its, r1, p1, _⟩ := I.list h1
  obtain ⟨jts, r2, p2, _⟩ := I.list h2
  obtain ⟨⟨c1, e1, d1, t1⟩, g1, k1, n1, w1⟩ := p1.isList
  obtain ⟨⟨c2, e2, d2, t2⟩, g2, k2, n2, w2⟩ := p2.isList
  simp only at k1 w1 k2 w2
  subst k1
  subst w1
  subst k2
  subst w2
  have hl1 := r1.length
  have hl2 := r2.length
  have e : its.toArray ++ jts.toArray = (its ++ jts).toArray := by simp
  refine concat_meets ⟨_, g1, rfl⟩ ⟨_, g2, rfl⟩ noFill_list_add seq_list_add PySem.F.slot_list_add PySem.F.entry_list_add (PySem.F.args_list_add_2 _ _)
    (list_addW l b its.toArray jts.toArray n1 n2 e1 e2 t1 t2 (by rw [List.size_toArray, List.size_toArray]; omega)) ⟨g1, g2, ?_⟩
  rw [e]
  exact ⟨.ref _, _, I.lnew (t' := s.toks) (r1.append r2) (by rw [List.length_append]; omega), rfl, q _ I.fresh⟩
end FG

set_option maxHeartbeats 4000000
namespace FG
open PySem PyProof.Rows L2
open PySem.Builtin (bitAnd bitOr bitXor bitNot)
/-! ### the places of whole numbers -/
theorem nat_and (a b : Nat) : a &&& b = 2 * (a / 2 &&& b / 2) + (a % 2) * (b % 2) := by
  have h1 := @Nat.and_div_two a b
  have h2 := @Nat.and_mod_two_eq_one a b
  have ha : a % 2 = 0 ∨ a % 2 = 1 := by omega
  have hb : b % 2 = 0 ∨ b % 2 = 1 := by omega
  rw [← h1]
  generalize a &&& b = W at h2 ⊢
  clear h1
  rcases ha with ha | ha <;> rcases hb with hb | hb <;> rw [ha, hb] at h2 ⊢ <;> omega
theorem nat_or (a b : Nat) : a ||| b = 2 * (a / 2 ||| b / 2) + (a % 2 + b % 2 - (a % 2) * (b % 2)) := by
  have h1 := @Nat.or_div_two a b
  have h2 := @Nat.or_mod_two_eq_one a b
  have ha : a % 2 = 0 ∨ a % 2 = 1 := by omega
  have hb : b % 2 = 0 ∨ b % 2 = 1 := by omega
  rw [← h1]
  generalize a ||| b = W at h2 ⊢
  clear h1
  rcases ha with ha | ha <;> rcases hb with hb | hb <;> rw [ha, hb] at h2 ⊢ <;> omega
theorem not_half (x : Int) : bitNot x / 2 = bitNot (x / 2) ∧ bitNot x % 2 = 1 - x % 2 := by
  unfold bitNot
  omega
theorem and_pp {x y : Int} (hx : 0 ≤ x) (hy : 0 ≤ y) : bitAnd x y = ((x.toNat &&& y.toNat : Nat) : Int) := by
  unfold bitAnd
  rw [decide_eq_true hx, decide_eq_true hy]
theorem and_pn {x y : Int} (hx : 0 ≤ x) (hy : y < 0) : bitAnd x y = x - ((x.toNat &&& (bitNot y).toNat : Nat) : Int) := by
  unfold bitAnd
  rw [decide_eq_true hx, decide_eq_false (by omega)]
theorem and_np {x y : Int} (hx : x < 0) (hy : 0 ≤ y) : bitAnd x y = y - ((y.toNat &&& (bitNot x).toNat : Nat) : Int) := by
  unfold bitAnd
  rw [decide_eq_false (by omega), decide_eq_true hy]
theorem and_nn {x y : Int} (hx : x < 0) (hy : y < 0) : bitAnd x y = bitNot (((bitNot x).toNat ||| (bitNot y).toNat : Nat) : Int) := by
  unfold bitAnd
  rw [decide_eq_false (by omega), decide_eq_false (by omega)]
theorem bit01 (x : Int) : x % 2 = 0 ∨ x % 2 = 1 := by omega
theorem nbit01 (x : Nat) : x % 2 = 0 ∨ x % 2 = 1 := by omega
theorem and_half (x y : Int) : bitAnd x y = 2 * bitAnd (x / 2) (y / 2) + (x % 2) * (y % 2) := by
  by_cases hx : 0 ≤ x <;> by_cases hy : 0 ≤ y
  · rw [and_pp hx hy, and_pp (x := x / 2) (y := y / 2) (by omega) (by omega), nat_and]
    have e1 : x.toNat / 2 = (x / 2).toNat := by omega
    have e2 : y.toNat / 2 = (y / 2).toNat := by omega
    rw [e1, e2]
    rcases bit01 x with h1 | h1 <;> rcases bit01 y with h2 | h2 <;> rw [h1, h2]
    all_goals
      have q1 : x.toNat % 2 = (x % 2).toNat := by omega
      have q2 : y.toNat % 2 = (y % 2).toNat := by omega
      rw [q1, q2, h1, h2]
      simp
  · have hy' : y < 0 := by omega
    rw [and_pn hx hy', and_pn (x := x / 2) (y := y / 2) (by omega) (by omega), nat_and]
    have n := not_half y
    have e1 : x.toNat / 2 = (x / 2).toNat := by omega
    have e2 : (bitNot y).toNat / 2 = (bitNot (y / 2)).toNat := by
      rw [← n.1]
      omega
    rw [e1, e2]
    have q1 : x.toNat % 2 = (x % 2).toNat := by omega
    have q2 : (bitNot y).toNat % 2 = (1 - y % 2).toNat := by
      have : 0 ≤ bitNot y := by unfold bitNot; omega
      omega
    rw [q1, q2]
    generalize ((x / 2).toNat &&& (bitNot (y / 2)).toNat) = W
    rcases bit01 x with h1 | h1 <;> rcases bit01 y with h2 | h2 <;> rw [h1, h2] <;> simp <;> omega
  · have hx' : x < 0 := by omega
    rw [and_np hx' hy, and_np (x := x / 2) (y := y / 2) (by omega) (by omega), nat_and]
    have n := not_half x
    have e1 : y.toNat / 2 = (y / 2).toNat := by omega
    have e2 : (bitNot x).toNat / 2 = (bitNot (x / 2)).toNat := by
      rw [← n.1]
      omega
    rw [e1, e2]
    have q1 : y.toNat % 2 = (y % 2).toNat := by omega
    have q2 : (bitNot x).toNat % 2 = (1 - x % 2).toNat := by
      have : 0 ≤ bitNot x := by unfold bitNot; omega
      omega
    rw [q1, q2]
    generalize ((y / 2).toNat &&& (bitNot (x / 2)).toNat) = W
    rcases bit01 x with h1 | h1 <;> rcases bit01 y with h2 | h2 <;> rw [h1, h2] <;> simp <;> omega
  · have hx' : x < 0 := by omega
    have hy' : y < 0 := by omega
    rw [and_nn hx' hy', and_nn (x := x / 2) (y := y / 2) (by omega) (by omega), nat_or]
    have n1 := not_half x
    have n2 := not_half y
    have e1 : (bitNot x).toNat / 2 = (bitNot (x / 2)).toNat := by
      rw [← n1.1]
      omega
    have e2 : (bitNot y).toNat / 2 = (bitNot (y / 2)).toNat := by
      rw [← n2.1]
      omega
    rw [e1, e2]
    have q1 : (bitNot x).toNat % 2 = (1 - x % 2).toNat := by
      have : 0 ≤ bitNot x := by unfold bitNot; omega
      omega
    have q2 : (bitNot y).toNat % 2 = (1 - y % 2).toNat := by
      have : 0 ≤ bitNot y := by unfold bitNot; omega
      omega
    rw [q1, q2]
    generalize ((bitNot (x / 2)).toNat ||| (bitNot (y / 2)).toNat) = W
    unfold bitNot
    rcases bit01 x with h1 | h1 <;> rcases bit01 y with h2 | h2 <;> rw [h1, h2] <;> simp <;> omega
theorem or_half (x y : Int) : bitOr x y = 2 * bitOr (x / 2) (y / 2) + (x % 2 + y % 2 - (x % 2) * (y % 2)) := by
  unfold bitOr
  have h := and_half (bitNot x) (bitNot y)
  have n1 := not_half x
  have n2 := not_half y
  rw [n1.1, n2.1, n1.2, n2.2] at h
  rw [h]
  generalize bitAnd (bitNot (x / 2)) (bitNot (y / 2)) = W
  unfold bitNot
  rcases bit01 x with h1 | h1 <;> rcases bit01 y with h2 | h2 <;> rw [h1, h2] <;> omega
theorem xor_half (x y : Int) : bitXor x y = 2 * bitXor (x / 2) (y / 2) + (x + y) % 2 := by
  unfold bitXor
  rw [and_half x y, or_half x y]
  generalize bitAnd (x / 2) (y / 2) = W
  generalize bitOr (x / 2) (y / 2) = Z
  rcases bit01 x with h1 | h1 <;> rcases bit01 y with h2 | h2 <;> rw [h1, h2] <;> omega
theorem xor_div (x y : Int) : bitXor x y / 2 = bitXor (x / 2) (y / 2) := by
  have := xor_half x y
  omega
theorem xor_mod (x y : Int) : bitXor x y % 2 = (x + y) % 2 := by
  have := xor_half x y
  omega
theorem and_div (x y : Int) : bitAnd x y / 2 = bitAnd (x / 2) (y / 2) := by
  have := and_half x y
  rcases bit01 x with h1 | h1 <;> rcases bit01 y with h2 | h2 <;> rw [h1, h2] at this <;> omega
theorem and_mod (x y : Int) : bitAnd x y % 2 = (x % 2) * (y % 2) := by
  have := and_half x y
  rcases bit01 x with h1 | h1 <;> rcases bit01 y with h2 | h2 <;> rw [h1, h2] at this ⊢ <;> omega
theorem and_bounds {x y : Int} (hy : 0 ≤ y) : 0 ≤ bitAnd x y ∧ bitAnd x y ≤ y := by
  by_cases hx : 0 ≤ x
  · rw [and_pp hx hy]
    have := @Nat.and_le_right x.toNat y.toNat
    omega
  · rw [and_np (by omega) hy]
    have := @Nat.and_le_left y.toNat (bitNot x).toNat
    omega
/-- two numbers on one side of nought -/
theorem xor_same {x y : Int} {N : Nat} (h : (0 ≤ x ∧ 0 ≤ y ∧ x < 2 ^ N ∧ y < 2 ^ N) ∨ (x < 0 ∧ y < 0 ∧ -(2 ^ N) ≤ x ∧ -(2 ^ N) ≤ y)) : 0 ≤ bitXor x y ∧ bitXor x y < 2 ^ N := by
  have key : ∀ a b : Nat, a < 2 ^ N → b < 2 ^ N → (0 : Int) ≤ ((a ||| b : Nat) : Int) - ((a &&& b : Nat) : Int) ∧ ((a ||| b : Nat) : Int) - ((a &&& b : Nat) : Int) < 2 ^ N := fun a b ha hb => by
    have h1 := Nat.or_lt_two_pow ha hb
    have h2 : a &&& b ≤ a := Nat.and_le_left
    have h3 : a ≤ a ||| b := Nat.left_le_or
    have h4 : ((a ||| b : Nat) : Int) < ((2 ^ N : Nat) : Int) := Int.ofNat_lt.mpr h1
    rw [Int.natCast_pow] at h4
    constructor
    · omega
    · have : ((2 : Nat) : Int) ^ N = (2 : Int) ^ N := rfl
      omega
  have nn : ∀ z : Int, bitNot (bitNot z) = z := fun z => by unfold bitNot; omega
  have c2 : ((2 ^ N : Nat) : Int) = (2 : Int) ^ N := Int.natCast_pow 2 N
  rcases h with ⟨hx, hy, bx, by'⟩ | ⟨hx, hy, bx, by'⟩
  · have e : bitXor x y = ((x.toNat ||| y.toNat : Nat) : Int) - ((x.toNat &&& y.toNat : Nat) : Int) := by
      unfold bitXor
      unfold bitOr
      rw [and_pp hx hy, and_nn (x := bitNot x) (y := bitNot y) (by unfold bitNot; omega) (by unfold bitNot; omega), nn, nn, nn]
    rw [e]
    exact key _ _ (by omega) (by omega)
  · have e : bitXor x y = (((bitNot x).toNat ||| (bitNot y).toNat : Nat) : Int) - (((bitNot x).toNat &&& (bitNot y).toNat : Nat) : Int) := by
      unfold bitXor
      unfold bitOr
      rw [and_nn hx hy, and_pp (x := bitNot x) (y := bitNot y) (by unfold bitNot; omega) (by unfold bitNot; omega)]
      generalize ((bitNot x).toNat ||| (bitNot y).toNat) = A
      generalize ((bitNot x).toNat &&& (bitNot y).toNat) = B
      unfold bitNot
      omega
    rw [e]
    have b1 : (bitNot x).toNat < 2 ^ N := by
      have : bitNot x < 2 ^ N := by unfold bitNot; omega
      omega
    have b2 : (bitNot y).toNat < 2 ^ N := by
      have : bitNot y < 2 ^ N := by unfold bitNot; omega
      omega
    exact key _ _ b1 b2
theorem xor_zero : ∀ (k : Nat) (x y : Int), x.natAbs + y.natAbs ≤ k → bitXor x y = 0 → x = y
  | 0, x, y, hk, h => by omega
  | k + 1, x, y, hk, h => by
    have h1 := xor_half x y
    rw [h] at h1
    have h2 : bitXor (x / 2) (y / 2) = 0 := by omega
    have h3 : (x + y) % 2 = 0 := by omega
    by_cases hs : (x = 0 ∨ x = -1) ∧ (y = 0 ∨ y = -1)
    · obtain ⟨a | a, b | b⟩ := hs <;> subst a <;> subst b
      · rfl
      · exact absurd h3 (by decide)
      · exact absurd h3 (by decide)
      · rfl
    · have := xor_zero k (x / 2) (y / 2) (by omega) h2
      omega
/-! ### the figures of two numbers' difference -/
def dig : Nat → Int → Int → List Int
  | 0, _, _ => []
  | L + 1, u, v => (u % 2 - v % 2) :: dig L (u / 2) (v / 2)
theorem dig_len : ∀ (L : Nat) (u v : Int), (dig L u v).length = L
  | 0, _, _ => rfl
  | L + 1, u, v => by
    show (dig L (u / 2) (v / 2)).length + 1 = L + 1
    rw [dig_len L]
theorem dig_fig : ∀ (L : Nat) (u v : Int), ∀ n ∈ dig L u v, -1 ≤ n ∧ n ≤ 1
  | 0, _, _, n, h => nomatch h
  | L + 1, u, v, n, h => by
    rcases List.mem_cons.mp h with e | e
    · omega
    · exact dig_fig L (u / 2) (v / 2) n e
theorem dig_val : ∀ (L : Nat) (u v : Int), 0 ≤ bitXor u v → bitXor u v < 2 ^ L → val (dig L u v) = u - v
  | 0, u, v, h0, h1 => by
    have : bitXor u v = 0 := by
      have e : (2 : Int) ^ 0 = 1 := rfl
      omega
    have := xor_zero _ u v (Nat.le_refl _) this
    show (0 : Int) = u - v
    omega
  | L + 1, u, v, h0, h1 => by
    have hx := xor_div u v
    have ih := dig_val L (u / 2) (v / 2) (by omega) (by rw [Int.pow_succ] at h1; omega)
    show (u % 2 - v % 2) + 2 * val (dig L (u / 2) (v / 2)) = u - v
    rw [ih]
    omega
theorem dig_last : ∀ (L : Nat) (u v : Int), 2 ^ L ≤ bitXor u v → bitXor u v < 2 ^ (L + 1) → (dig (L + 1) u v).getLast? ≠ some 0
  | 0, u, v, h0, h1 => by
    have e : bitXor u v = 1 := by
      have e0 : (2 : Int) ^ 0 = 1 := rfl
      have e1 : (2 : Int) ^ 1 = 2 := rfl
      omega
    have := xor_mod u v
    rw [e] at this
    show ([u % 2 - v % 2] : List Int).getLast? ≠ some 0
    simp
    omega
  | L + 1, u, v, h0, h1 => by
    have hx := xor_div u v
    have ih := dig_last L (u / 2) (v / 2) (by rw [Int.pow_succ] at h0; omega) (by rw [Int.pow_succ] at h1; omega)
    show ((u % 2 - v % 2) :: dig (L + 1) (u / 2) (v / 2)).getLast? ≠ some 0
    have e : dig (L + 1) (u / 2) (v / 2) = (u / 2 % 2 - v / 2 % 2) :: dig L (u / 2 / 2) (v / 2 / 2) := rfl
    rw [e, List.getLast?_cons_cons, ← e]
    exact ih
end FG

set_option maxHeartbeats 4000000
namespace FG
open PySem PyProof.Rows L2
open PySem.Builtin (bitAnd bitOr bitXor bitNot)
theorem gaps_cons {x : Int} {l : List Int} (h1 : x = 0 ∨ l.head? = some 0 ∨ l = []) (h2 : gaps l = true) : gaps (x :: l) = true := by
  match l, h1, h2 with
  | [], _, _ => rfl
  | y :: r, h1, h2 =>
    show ((decide (x = 0) || decide (y = 0)) && gaps (y :: r)) = true
    rw [h2]
    rcases h1 with h | h | h
    · simp [h]
    · simp at h
      simp [h]
    · exact nomatch h
theorem dig_gaps : ∀ (L : Nat) (u v e : Int), u = 3 * v + e → 0 ≤ e → e ≤ 2 → gaps (dig L u v) = true ∧ (e ≠ 1 → (dig L u v).head? = some 0 ∨ dig L u v = [])
  | 0, _, _, _, _, _, _ => ⟨rfl, fun _ => .inr rfl⟩
  | L + 1, u, v, e, he, h0, h2 => by
    have ih := dig_gaps L (u / 2) (v / 2) ((3 * (v % 2) + e) / 2) (by omega) (by omega) (by omega)
    constructor
    · show gaps ((u % 2 - v % 2) :: dig L (u / 2) (v / 2)) = true
      refine gaps_cons ?_ ih.1
      by_cases h1 : e = 1
      · exact .inr (ih.2 (by omega))
      · exact .inl (by omega)
    · intro h1
      refine .inl ?_
      show some (u % 2 - v % 2) = some 0
      congr 1
      omega
/-! ### a lean row is the only one of its worth -/
theorem val_ne : ∀ r : List Int, (∀ n ∈ r, -1 ≤ n ∧ n ≤ 1) → r.getLast? ≠ some 0 → r ≠ [] → val r ≠ 0
  | [], _, _, h => absurd rfl h
  | [d], _, h, _ => by
    show d + 2 * 0 ≠ 0
    have : d ≠ 0 := fun e => h (by rw [e]; rfl)
    omega
  | d :: x :: t, hb, h, _ => by
    have ih := val_ne (x :: t) (fun n hn => hb n (List.mem_cons_of_mem _ hn)) (by rw [List.getLast?_cons_cons] at h; exact h) (by simp)
    have hd := hb d List.mem_cons_self
    show d + 2 * val (x :: t) ≠ 0
    omega
theorem gaps_tail {x : Int} {l : List Int} (h : gaps (x :: l) = true) : gaps l = true := by
  match l, h with
  | [], _ => rfl
  | y :: r, h =>
    have h' : ((decide (x = 0) || decide (y = 0)) && gaps (y :: r)) = true := h
    exact (Bool.and_eq_true_iff.mp h').2
theorem row_tail {x : Int} {l : List Int} (r : Row (x :: l)) : Row l := by
  refine ⟨fun n hn => r.1 n (List.mem_cons_of_mem _ hn), ?_⟩
  match l, r with
  | [], _ => exact fun z => nomatch z
  | y :: t, r =>
    have := r.2
    rw [List.getLast?_cons_cons] at this
    exact this
theorem odd_next {x : Int} {l : List Int} (h : gaps (x :: l) = true) (hx : x ≠ 0) : val l % 2 = 0 := by
  match l, h with
  | [], _ => rfl
  | y :: r, h =>
    have h' : ((decide (x = 0) || decide (y = 0)) && gaps (y :: r)) = true := h
    have h1 := (Bool.and_eq_true_iff.mp h').1
    have hy : y = 0 := by simpa [hx] using h1
    show (y + 2 * val r) % 2 = 0
    omega
theorem lean_only : ∀ (r t : List Int), Row r → Row t → gaps r = true → gaps t = true → val r = val t → r = t
  | [], [], _, _, _, _, _ => rfl
  | [], y :: t, _, ht, _, _, e => absurd e.symm (val_ne (y :: t) ht.1 ht.2 (by simp))
  | x :: r, [], hr, _, _, _, e => absurd e (val_ne (x :: r) hr.1 hr.2 (by simp))
  | x :: r, y :: t, hr, ht, gr, gt, e => by
    have hx := hr.1 x List.mem_cons_self
    have hy := ht.1 y List.mem_cons_self
    have e' : x + 2 * val r = y + 2 * val t := e
    have same : x = y := by
      by_cases x0 : x = 0
      · omega
      · by_cases y0 : y = 0
        · omega
        · have o1 := odd_next gr x0
          have o2 := odd_next gt y0
          omega
    subst same
    have ih := lean_only r t (row_tail hr) (row_tail ht) (gaps_tail gr) (gaps_tail gt) (by omega)
    rw [ih]
/-! ### the places of a number as a text -/
def bitsLE : Nat → Nat → List Nat
  | 0, _ => []
  | L + 1, x => (x % 2 + 48) :: bitsLE L (x / 2)
theorem bitsLE_len : ∀ (L x : Nat), (bitsLE L x).length = L
  | 0, _ => rfl
  | L + 1, x => congrArg (· + 1) (bitsLE_len L (x / 2))
theorem bitsLE_zero : ∀ L : Nat, bitsLE L 0 = List.replicate L 48
  | 0 => rfl
  | L + 1 => by
    show (0 % 2 + 48) :: bitsLE L (0 / 2) = _
    rw [Nat.zero_div, bitsLE_zero L]
    rfl
def digs (x : Nat) : List Nat := ((Nat.toDigits 2 x).map Char.toNat).reverse
theorem digs_small {x : Nat} (h : x < 2) : digs x = [x + 48] := by
  unfold digs
  rw [Nat.toDigits_of_lt_base h]
  have c : x = 0 ∨ x = 1 := by omega
  rcases c with e | e <;> subst e <;> rfl
theorem digs_step {x : Nat} (h : 2 ≤ x) : digs x = (x % 2 + 48) :: digs (x / 2) := by
  have e := @Nat.toDigits_append_toDigits 2 (x / 2) (x % 2) (by decide) (by omega) (by omega)
  have e2 : 2 * (x / 2) + x % 2 = x := by omega
  rw [e2] at e
  have e3 := digs_small (x := x % 2) (by omega)
  unfold digs at e3 ⊢
  rw [← e, List.map_append, List.reverse_append, e3]
  rfl
theorem digs_bits : ∀ (L x : Nat), x < 2 ^ (L + 1) → (digs x).length ≤ L + 1 ∧ digs x ++ List.replicate (L + 1 - (digs x).length) 48 = bitsLE (L + 1) x
  | 0, x, h => by
    have hx : x < 2 := by simpa using h
    rw [digs_small hx]
    refine ⟨Nat.le_refl _, ?_⟩
    show [x + 48] ++ [] = [x % 2 + 48]
    rw [List.append_nil, Nat.mod_eq_of_lt hx]
  | L + 1, x, h => by
    by_cases hx : x < 2
    · rw [digs_small hx]
      refine ⟨by simp, ?_⟩
      show (x + 48) :: List.replicate (L + 1 + 1 - 1) 48 = (x % 2 + 48) :: bitsLE (L + 1) (x / 2)
      have e : x / 2 = 0 := by omega
      rw [e, bitsLE_zero, Nat.mod_eq_of_lt hx]
      rfl
    · have h2 : 2 ≤ x := by omega
      have ih := digs_bits L (x / 2) (by rw [Nat.pow_succ] at h; omega)
      rw [digs_step h2]
      refine ⟨by simp only [List.length_cons]; omega, ?_⟩
      show (x % 2 + 48) :: (digs (x / 2) ++ List.replicate (L + 1 + 1 - ((digs (x / 2)).length + 1)) 48) = (x % 2 + 48) :: bitsLE (L + 1) (x / 2)
      have e : L + 1 + 1 - ((digs (x / 2)).length + 1) = L + 1 - (digs (x / 2)).length := by omega
      rw [e, ih.2]
theorem binText_list (x : Nat) : (XB.binText (x : Int)).cps.toList = (digs x).reverse := by
  unfold XB.binText XB.binSigns digs
  have h : decide (((x : Nat) : Int) < 0) = false := decide_eq_false (by omega)
  rw [h]
  simp
theorem binText_len (x : Nat) : (XB.binText (x : Int)).length = (digs x).length := by
  have := congrArg List.length (binText_list x)
  rw [Array.length_toList, List.length_reverse] at this
  exact this
theorem digs_head (x : Nat) : ∀ c ∈ digs x, c = 48 ∨ c = 49 := by
  induction x using Nat.strongRecOn with
  | _ x ih =>
    intro c hc
    by_cases hx : x < 2
    · rw [digs_small hx] at hc
      have := List.mem_singleton.mp hc
      omega
    · rw [digs_step (by omega)] at hc
      rcases List.mem_cons.mp hc with e | e
      · omega
      · exact ih (x / 2) (by omega) c e
/-- filled up with 0 and turned round: the places, the lowest first -/
theorem filled {L x : Nat} (h : x < 2 ^ (L + 1)) : (Txt.zfill (XB.binText (x : Int)) ((L + 1 : Nat) : Int)).cps.toList.reverse = bitsLE (L + 1) x := by
  obtain ⟨h1, h2⟩ := digs_bits L x h
  have el := binText_len x
  unfold Txt.zfill
  by_cases hc : ((L + 1 : Nat) : Int) ≤ ((XB.binText (x : Int)).length : Int)
  · rw [if_pos hc, binText_list, List.reverse_reverse, ← h2]
    have : L + 1 - (digs x).length = 0 := by omega
    rw [this]
    simp
  · rw [if_neg hc]
    have first : ∀ c, (XB.binText (x : Int)).cps[0]? = some c → c = 48 ∨ c = 49 := fun c hc => by
      have : c ∈ (XB.binText (x : Int)).cps.toList := by
        rw [← Array.getElem?_toList] at hc
        exact List.mem_of_getElem? hc
      rw [binText_list] at this
      exact digs_head x c (List.mem_reverse.mp this)
    have eP : zfilled (XB.binText (x : Int)) ((((L + 1 : Nat) : Int)).toNat - (XB.binText (x : Int)).length) = Builtin.Str.padded (XB.binText (x : Int)) ((((L + 1 : Nat) : Int)).toNat - (XB.binText (x : Int)).length) 0 48 := by
      unfold zfilled
      split
      · rename_i e
        have := first _ e
        omega
      · rename_i e
        have := first _ e
        omega
      · rfl
    rw [eP, el, Int.toNat_natCast, ← h2]
    have eq : (Builtin.Str.padded (XB.binText (x : Int)) (L + 1 - (digs x).length) 0 48).cps.toList = List.replicate (L + 1 - (digs x).length) 48 ++ (XB.binText (x : Int)).cps.toList := by
      unfold Builtin.Str.padded
      simp
    rw [eq, List.reverse_append, binText_list, List.reverse_reverse]
    simp
/-- the two texts' figures, one taken from the other -/
theorem bits_dig : ∀ (L : Nat) (u v : Int), 0 ≤ bitXor u v →
    List.zipWith (fun a b : Nat => (a : Int) - (b : Int)) (bitsLE L (bitAnd u (bitXor u v)).toNat) (bitsLE L (bitAnd v (bitXor u v)).toNat) = dig L u v
  | 0, _, _, _ => rfl
  | L + 1, u, v, h => by
    have hx := xor_div u v
    have hm := xor_mod u v
    have ih := bits_dig L (u / 2) (v / 2) (by omega)
    have a1 := and_bounds (x := u) h
    have b1 := and_bounds (x := v) h
    have a2 := and_div u (bitXor u v)
    have b2 := and_div v (bitXor u v)
    have a3 := and_mod u (bitXor u v)
    have b3 := and_mod v (bitXor u v)
    rw [hx] at a2 b2
    rw [hm] at a3 b3
    have e1 : (bitAnd u (bitXor u v)).toNat / 2 = (bitAnd (u / 2) (bitXor (u / 2) (v / 2))).toNat := by omega
    have e2 : (bitAnd v (bitXor u v)).toNat / 2 = (bitAnd (v / 2) (bitXor (u / 2) (v / 2))).toNat := by omega
    show ((((bitAnd u (bitXor u v)).toNat % 2 + 48 : Nat) : Int) - (((bitAnd v (bitXor u v)).toNat % 2 + 48 : Nat) : Int)) :: List.zipWith _ (bitsLE L ((bitAnd u (bitXor u v)).toNat / 2)) (bitsLE L ((bitAnd v (bitXor u v)).toNat / 2)) = (u % 2 - v % 2) :: dig L (u / 2) (v / 2)
    rw [e1, e2, ih]
    congr 1
    have c1 : (((bitAnd u (bitXor u v)).toNat % 2 : Nat) : Int) = bitAnd u (bitXor u v) % 2 := by omega
    have c2 : (((bitAnd v (bitXor u v)).toNat % 2 : Nat) : Int) = bitAnd v (bitXor u v) % 2 := by omega
    have c3 : ((((bitAnd u (bitXor u v)).toNat % 2 + 48 : Nat) : Int) - (((bitAnd v (bitXor u v)).toNat % 2 + 48 : Nat) : Int)) = bitAnd u (bitXor u v) % 2 - bitAnd v (bitXor u v) % 2 := by omega
    rw [c3, a3, b3]
    rcases bit01 u with p | p <;> rcases bit01 v with q | q
    all_goals
      have z : (u + v) % 2 = (u % 2 + v % 2) % 2 := by omega
      rw [z, p, q]
      rfl
theorem bitsLE_get : ∀ (L x i : Nat), i < L → ∃ c, (bitsLE L x)[i]? = some c ∧ (c = 48 ∨ c = 49)
  | 0, _, _, h => absurd h (Nat.not_lt_zero _)
  | L + 1, x, 0, _ => ⟨x % 2 + 48, rfl, by omega⟩
  | L + 1, x, i + 1, h => bitsLE_get L (x / 2) i (by omega)
/-- what lean's numbers are: the parts of three halves -/
theorem lean_facts {n : Int} {N : Nat} (h : n.natAbs < 2 ^ N) : 0 ≤ bitXor (n + n / 2) (n / 2) ∧ bitXor (n + n / 2) (n / 2) < 2 ^ (N + 1) := by
  refine xor_same ?_
  have e : (2 : Int) ^ (N + 1) = 2 * 2 ^ N := by rw [Int.pow_succ, Int.mul_comm]
  have c : ((2 ^ N : Nat) : Int) = (2 : Int) ^ N := Int.natCast_pow 2 N
  rw [e]
  by_cases h0 : 0 ≤ n
  · exact .inl ⟨by omega, by omega, by omega, by omega⟩
  · exact .inr ⟨by omega, by omega, by omega, by omega⟩
/-- the row that lean tells -/
theorem lean_row {n : Int} (hn : n ≠ 0) {N : Nat} (h : n.natAbs < 2 ^ N) :
    ∃ L, Builtin.Int.intBits (bitXor (n + n / 2) (n / 2)) = L + 1 ∧ L + 1 ≤ N + 1 ∧ (bitAnd (n + n / 2) (bitXor (n + n / 2) (n / 2))).toNat < 2 ^ (L + 1) ∧ (bitAnd (n / 2) (bitXor (n + n / 2) (n / 2))).toNat < 2 ^ (L + 1) ∧
      Row (dig (L + 1) (n + n / 2) (n / 2)) ∧ gaps (dig (L + 1) (n + n / 2) (n / 2)) = true ∧ val (dig (L + 1) (n + n / 2) (n / 2)) = n := by
  obtain ⟨x0, x1⟩ := lean_facts h
  have xn : bitXor (n + n / 2) (n / 2) ≠ 0 := fun e => by
    have := xor_zero _ _ _ (Nat.le_refl _) e
    omega
  generalize hX : bitXor (n + n / 2) (n / 2) = X at x0 x1 xn
  have hb : Builtin.Int.intBits X = X.natAbs.log2 + 1 := by
    unfold Builtin.Int.intBits
    rw [if_neg (by simpa using xn)]
  have hx' : X.natAbs ≠ 0 := by omega
  have l1 := Nat.log2_self_le hx'
  have l2 : X.natAbs < 2 ^ (X.natAbs.log2 + 1) := (Nat.log2_lt hx').mp (Nat.lt_succ_self _)
  have l3 : X.natAbs.log2 < N + 1 := by
    refine (Nat.log2_lt hx').mpr ?_
    have c : ((2 ^ (N + 1) : Nat) : Int) = (2 : Int) ^ (N + 1) := Int.natCast_pow 2 (N + 1)
    omega
  generalize X.natAbs.log2 = L at hb l1 l2 l3
  have c1 : ((2 ^ L : Nat) : Int) = (2 : Int) ^ L := Int.natCast_pow 2 L
  have c2 : ((2 ^ (L + 1) : Nat) : Int) = (2 : Int) ^ (L + 1) := Int.natCast_pow 2 (L + 1)
  have a1 := and_bounds (x := n + n / 2) (y := X) x0
  have b1 := and_bounds (x := n / 2) (y := X) x0
  refine ⟨L, hb, by omega, by omega, by omega, ⟨dig_fig _ _ _, ?_⟩, ?_, ?_⟩
  · exact dig_last L _ _ (by rw [hX]; omega) (by rw [hX]; omega)
  · exact (dig_gaps (L + 1) (n + n / 2) (n / 2) (n % 2) (by omega) (by omega) (by omega)).1
  · rw [dig_val (L + 1) _ _ (by rw [hX]; exact x0) (by rw [hX]; omega)]
    omega
end FG

set_option maxHeartbeats 4000000
/-! the two numbers that have the places of a lean row's 1 and -1. -/
namespace XParts
open PySem PyProof.Rows L2 FG
open PySem.Builtin (bitAnd bitOr bitXor bitNot)
theorem none_back {H H' : Hp} {p : Addr} (s : Same H H') (h : H' p = none) : H p = none := by
  cases e : H p with
  | none => rfl
  | some o => exact absurd ((s p o e).symm.trans h) (by simp)
/-! ### the two parts of a difference -/
theorem parts_half (u v : Int) (h : 0 ≤ bitXor u v) : bitAnd u (bitXor u v) / 2 = bitAnd (u / 2) (bitXor (u / 2) (v / 2)) ∧ bitAnd v (bitXor u v) / 2 = bitAnd (v / 2) (bitXor (u / 2) (v / 2)) ∧
    bitAnd u (bitXor u v) % 2 = (u % 2) * ((u + v) % 2) ∧ bitAnd v (bitXor u v) % 2 = (v % 2) * ((u + v) % 2) := by
  have hx := xor_div u v
  have hm := xor_mod u v
  have a2 := and_div u (bitXor u v)
  have b2 := and_div v (bitXor u v)
  have a3 := and_mod u (bitXor u v)
  have b3 := and_mod v (bitXor u v)
  rw [hx] at a2 b2
  rw [hm] at a3 b3
  exact ⟨a2, b2, a3, b3⟩
theorem bits_two (u v : Int) : (u % 2) * ((u + v) % 2) + (v % 2) * ((u + v) % 2) = (u + v) % 2 := by
  have z : (u + v) % 2 = (u % 2 + v % 2) % 2 := by omega
  rw [z]
  rcases bit01 u with p | p <;> rcases bit01 v with q | q <;> rw [p, q] <;> rfl
/-- together they are all places that are unlike -/
theorem parts_sum : ∀ (L : Nat) (u v : Int), 0 ≤ bitXor u v → bitXor u v < 2 ^ L → bitAnd u (bitXor u v) + bitAnd v (bitXor u v) = bitXor u v
  | 0, u, v, h0, h1 => by
    have e : bitXor u v = 0 := by
      have e0 : (2 : Int) ^ 0 = 1 := rfl
      omega
    have a1 := and_bounds (x := u) h0
    have b1 := and_bounds (x := v) h0
    omega
  | L + 1, u, v, h0, h1 => by
    have hx := xor_div u v
    have hm := xor_mod u v
    have ih := parts_sum L (u / 2) (v / 2) (by omega) (by rw [Int.pow_succ] at h1; omega)
    obtain ⟨a, b, c, d⟩ := parts_half u v h0
    have t := bits_two u v
    generalize bitAnd (u / 2) (bitXor (u / 2) (v / 2)) = A at *
    generalize bitAnd (v / 2) (bitXor (u / 2) (v / 2)) = B at *
    generalize (u % 2) * ((u + v) % 2) = C at *
    generalize (v % 2) * ((u + v) % 2) = E at *
    omega
/-- the topmost place is in one of them -/
theorem parts_top : ∀ (L : Nat) (u v : Int), 2 ^ L ≤ bitXor u v → bitXor u v < 2 ^ (L + 1) → 2 ^ L ≤ bitAnd u (bitXor u v) ∨ 2 ^ L ≤ bitAnd v (bitXor u v)
  | 0, u, v, h0, h1 => by
    have e0 : (2 : Int) ^ 0 = 1 := rfl
    have e1 : (2 : Int) ^ 1 = 2 := rfl
    have h := parts_sum 1 u v (by omega) (by omega)
    have a1 := and_bounds (x := u) (y := bitXor u v) (by omega)
    have b1 := and_bounds (x := v) (y := bitXor u v) (by omega)
    omega
  | L + 1, u, v, h0, h1 => by
    have hx := xor_div u v
    have e1 : (2 : Int) ^ (L + 1) = 2 * 2 ^ L := by rw [Int.pow_succ, Int.mul_comm]
    have e2 : (2 : Int) ^ (L + 1 + 1) = 2 * 2 ^ (L + 1) := by rw [Int.pow_succ, Int.mul_comm]
    have p0 : (0 : Int) < 2 ^ L := Int.pow_pos (by omega)
    obtain ⟨a, b, _, _⟩ := parts_half u v (by omega)
    have ih := parts_top L (u / 2) (v / 2) (by omega) (by omega)
    rcases ih with h | h
    · exact .inl (by omega)
    · exact .inr (by omega)
/-- the greater of the two has just so many places -/
theorem bits_top {L : Nat} {x : Int} (h0 : 2 ^ L ≤ x) (h1 : x < 2 ^ (L + 1)) : Builtin.Int.intBits x = L + 1 := by
  have p0 : (0 : Int) < 2 ^ L := Int.pow_pos (by omega)
  have hb : Builtin.Int.intBits x = x.natAbs.log2 + 1 := by
    unfold Builtin.Int.intBits
    rw [if_neg (by simp; omega)]
  have hx' : x.natAbs ≠ 0 := by omega
  have c1 : ((2 ^ L : Nat) : Int) = (2 : Int) ^ L := Int.natCast_pow 2 L
  have c2 : ((2 ^ (L + 1) : Nat) : Int) = (2 : Int) ^ (L + 1) := Int.natCast_pow 2 (L + 1)
  have e : x.natAbs.log2 = L := (Nat.log2_eq_iff hx').mpr ⟨by omega, by omega⟩
  omega
/-- the row that lean tells, its parts and how many places the greater part has -/
theorem parts_row {n : Int} (hn : n ≠ 0) {N : Nat} (h : n.natAbs < 2 ^ N) :
    ∃ L, Builtin.Int.intBits (if bitAnd (n / 2) (bitXor (n + n / 2) (n / 2)) > bitAnd (n + n / 2) (bitXor (n + n / 2) (n / 2)) then bitAnd (n / 2) (bitXor (n + n / 2) (n / 2)) else bitAnd (n + n / 2) (bitXor (n + n / 2) (n / 2))) = L + 1 ∧ L + 1 ≤ N + 1 ∧ (bitAnd (n + n / 2) (bitXor (n + n / 2) (n / 2))).toNat < 2 ^ (L + 1) ∧ (bitAnd (n / 2) (bitXor (n + n / 2) (n / 2))).toNat < 2 ^ (L + 1) ∧
      Row (dig (L + 1) (n + n / 2) (n / 2)) ∧ gaps (dig (L + 1) (n + n / 2) (n / 2)) = true ∧ val (dig (L + 1) (n + n / 2) (n / 2)) = n := by
  obtain ⟨L, hb, hL, ha, hd, rr, rg, rv⟩ := lean_row hn h
  obtain ⟨x0, x1⟩ := lean_facts h
  have xn : bitXor (n + n / 2) (n / 2) ≠ 0 := fun e => by
    have := xor_zero _ _ _ (Nat.le_refl _) e
    omega
  have hb2 : Builtin.Int.intBits (bitXor (n + n / 2) (n / 2)) = (bitXor (n + n / 2) (n / 2)).natAbs.log2 + 1 := by
    unfold Builtin.Int.intBits
    rw [if_neg (by simpa using xn)]
  have hx' : (bitXor (n + n / 2) (n / 2)).natAbs ≠ 0 := by omega
  have l1 := Nat.log2_self_le hx'
  have l2 : (bitXor (n + n / 2) (n / 2)).natAbs < 2 ^ ((bitXor (n + n / 2) (n / 2)).natAbs.log2 + 1) := (Nat.log2_lt hx').mp (Nat.lt_succ_self _)
  have el : (bitXor (n + n / 2) (n / 2)).natAbs.log2 = L := by omega
  rw [el] at l1 l2
  have c1 : ((2 ^ L : Nat) : Int) = (2 : Int) ^ L := Int.natCast_pow 2 L
  have c2 : ((2 ^ (L + 1) : Nat) : Int) = (2 : Int) ^ (L + 1) := Int.natCast_pow 2 (L + 1)
  have tp := parts_top L (n + n / 2) (n / 2) (by omega) (by omega)
  have a1 := and_bounds (x := n + n / 2) x0
  have b1 := and_bounds (x := n / 2) x0
  refine ⟨L, ?_, hL, ha, hd, rr, rg, rv⟩
  split
  · exact bits_top (by omega) (by omega)
  · exact bits_top (by omega) (by omega)
end XParts

set_option maxHeartbeats 4000000
namespace FG
open PySem PyProof.Rows L2
theorem gaps_mid : ∀ (a : List Int) {b : List Int}, gaps a = true → gaps (0 :: b) = true → gaps (a ++ 0 :: b) = true
  | [], _, _, h => h
  | [x], b, _, h => gaps_cons (.inr (.inl rfl)) h
  | x :: y :: r, b, ha, h => by
    have ha' : ((decide (x = 0) || decide (y = 0)) && gaps (y :: r)) = true := ha
    obtain ⟨h1, h2⟩ := Bool.and_eq_true_iff.mp ha'
    have ih := gaps_mid (y :: r) h2 h
    show ((decide (x = 0) || decide (y = 0)) && gaps ((y :: r) ++ 0 :: b)) = true
    rw [h1, ih]
    rfl
/-- rows of 0 alone ahead of a row -/
theorem gaps_zeros : ∀ (g : Nat) {b : List Int}, gaps b = true → gaps (List.replicate g 0 ++ b) = true
  | 0, _, h => h
  | g + 1, b, h => by
    rw [List.replicate_succ, List.cons_append]
    exact gaps_cons (.inl rfl) (gaps_zeros g h)
theorem gaps_left : ∀ (a : List Int) {b : List Int}, gaps (a ++ b) = true → gaps a = true
  | [], _, _ => rfl
  | [x], _, _ => rfl
  | x :: y :: r, b, h => by
    have h' : ((decide (x = 0) || decide (y = 0)) && gaps ((y :: r) ++ b)) = true := h
    obtain ⟨h1, h2⟩ := Bool.and_eq_true_iff.mp h'
    show ((decide (x = 0) || decide (y = 0)) && gaps (y :: r)) = true
    rw [h1, gaps_left (y :: r) h2]
    rfl
theorem gaps_right : ∀ (a : List Int) {b : List Int}, gaps (a ++ b) = true → gaps b = true
  | [], _, h => h
  | x :: r, b, h => gaps_right r (gaps_tail h)
/-- another head in a row's place -/
theorem gaps_swap {a : List Int} {r s : Int} {b : List Int} (h : gaps (a ++ r :: b) = true) (hr : r ≠ 0) : gaps (a ++ s :: b) = true := by
  have hb : b.head? = some 0 ∨ b = [] := by
    have h1 := gaps_right a h
    match b, h1 with
    | [], _ => exact .inr rfl
    | y :: t, h1 =>
      have h' : ((decide (r = 0) || decide (y = 0)) && gaps (y :: t)) = true := h1
      have h2 := (Bool.and_eq_true_iff.mp h').1
      have hy : y = 0 := by simpa [hr] using h2
      exact .inl (by rw [hy]; rfl)
  have hs : gaps (s :: b) = true := by
    refine gaps_cons ?_ (gaps_tail (gaps_right a h))
    rcases hb with h | h
    · exact .inr (.inl h)
    · exact .inr (.inr h)
  -- the figure ahead of r is 0
  induction a with
  | nil => exact hs
  | cons x t ih =>
    have ht := ih (gaps_tail h)
    match t, h, ht with
    | [], h, ht =>
      have h' : ((decide (x = 0) || decide (r = 0)) && gaps (r :: b)) = true := h
      have h2 := (Bool.and_eq_true_iff.mp h').1
      have hx : x = 0 := by simpa [hr] using h2
      exact gaps_cons (.inl hx) ht
    | y :: u, h, ht =>
      have h' : ((decide (x = 0) || decide (y = 0)) && gaps ((y :: u) ++ r :: b)) = true := h
      have h2 := (Bool.and_eq_true_iff.mp h').1
      show ((decide (x = 0) || decide (y = 0)) && gaps ((y :: u) ++ s :: b)) = true
      rw [h2, ht]
      rfl
theorem gaps_behind {r : Int} {b : List Int} (h : gaps (r :: b) = true) (hr : r ≠ 0) : b.head? = some 0 ∨ b = [] := by
  match b, h with
  | [], _ => exact .inr rfl
  | y :: t, h =>
    have h' : ((decide (r = 0) || decide (y = 0)) && gaps (y :: t)) = true := h
    have h2 := (Bool.and_eq_true_iff.mp h').1
    have hy : y = 0 := by simpa [hr] using h2
    exact .inl (by rw [hy]; rfl)
/-- a row's figure moved up by a place -/
theorem gaps_move {a : List Int} {r : Int} {b : List Int} (h : gaps (a ++ r :: b) = true) (hr : r ≠ 0) : gaps (a ++ 0 :: r :: b) = true := by
  have h1 := gaps_right a h
  exact gaps_mid a (gaps_left a h) (gaps_cons (.inl rfl) h1)
/-- the row without the 0 at its end -/
def strip (l : List Int) : List Int := if l.getLast? = some 0 then strip l.dropLast else l
termination_by l.length
decreasing_by
  rename_i h
  cases l with
  | nil => exact nomatch h
  | cons x t => simp
theorem val_snoc0 (l : List Int) : val (l ++ [0]) = val l := by
  rw [val_append]
  show val l + 2 ^ l.length * (0 + 2 * 0) = val l
  simp
theorem last_split {l : List Int} {x : Int} (h : l.getLast? = some x) : l = l.dropLast ++ [x] := by
  cases l with
  | nil => exact nomatch h
  | cons y t =>
    have e := List.getLast?_eq_getLast (List.cons_ne_nil y t)
    rw [e] at h
    have h' := Option.some.inj h
    rw [← h']
    exact (List.dropLast_concat_getLast _).symm
theorem val_abs : ∀ l : List Int, (∀ n ∈ l, -1 ≤ n ∧ n ≤ 1) → (val l).natAbs < 2 ^ l.length
  | [], _ => by decide
  | n :: r, h => by
    have ih := val_abs r fun m hm => h m (List.mem_cons_of_mem _ hm)
    have hn := h n List.mem_cons_self
    show (n + 2 * val r).natAbs < 2 ^ (r.length + 1)
    rw [Nat.pow_succ]
    omega
theorem row_drop1 {l : List Int} (h1 : ∀ n ∈ l, -1 ≤ n ∧ n ≤ 1) (h2 : l.getLast? ≠ some 0) : Row (l.drop 1) := by
  cases l with
  | nil => exact ⟨fun n hn => (nomatch hn), fun z => (nomatch z)⟩
  | cons x t => exact row_tail ⟨h1, h2⟩
theorem ne_neg {A B : List Int} {r : Int} (hr : r = 1 ∨ r = -1) : val (A ++ (0 - r) :: B) ≠ val (A ++ r :: B) := by
  rw [val_append, val_append]
  have p : (0 : Int) < 2 ^ A.length := Int.pow_pos (by decide)
  show val A + 2 ^ A.length * (0 - r + 2 * val B) ≠ val A + 2 ^ A.length * (r + 2 * val B)
  intro e
  have e2 : (2 : Int) ^ A.length * (0 - r + 2 * val B) = 2 ^ A.length * (r + 2 * val B) := by omega
  have e3 := Int.eq_of_mul_eq_mul_left (by omega) e2
  omega
theorem ne_out {A B : List Int} {r : Int} (hr : r = 1 ∨ r = -1) : val (A ++ 0 :: B) ≠ val (A ++ r :: B) := by
  rw [val_append, val_append]
  have p : (0 : Int) < 2 ^ A.length := Int.pow_pos (by decide)
  show val A + 2 ^ A.length * (0 + 2 * val B) ≠ val A + 2 ^ A.length * (r + 2 * val B)
  intro e
  have e2 : (2 : Int) ^ A.length * (0 + 2 * val B) = 2 ^ A.length * (r + 2 * val B) := by omega
  have e3 := Int.eq_of_mul_eq_mul_left (by omega) e2
  omega
theorem ne_move {A B : List Int} {r : Int} (hr : r = 1 ∨ r = -1) : val (A ++ 0 :: r :: B) ≠ val (A ++ r :: B) := by
  rw [val_append, val_append]
  have p : (0 : Int) < 2 ^ A.length := Int.pow_pos (by decide)
  show val A + 2 ^ A.length * (0 + 2 * (r + 2 * val B)) ≠ val A + 2 ^ A.length * (r + 2 * val B)
  intro e
  have e2 : (2 : Int) ^ A.length * (0 + 2 * (r + 2 * val B)) = 2 ^ A.length * (r + 2 * val B) := by omega
  have e3 := Int.eq_of_mul_eq_mul_left (by omega) e2
  omega
theorem rep_zero : ∀ g : Nat, (List.replicate g [V.int 0]).flatten = (List.replicate g (0 : Int)).map V.int
  | 0 => rfl
  | g + 1 => by
    rw [List.replicate_succ, List.flatten_cons, rep_zero g, List.replicate_succ, List.map_cons]
    rfl
/-- slices of rows -/
theorem cut_from (ns : List Int) (k : Nat) : cutV (ns.map V.int) (some (k : Int)) none = (ns.drop k).map V.int := by
  unfold cutV
  rw [HT.sIx_nat, HT.sIx_none, List.map_drop]
  by_cases h : k ≤ (ns.map V.int).length
  · rw [Nat.min_eq_left h]
    apply List.take_of_length_le
    rw [List.length_drop]
    exact Nat.le_refl _
  · have h' : (ns.map V.int).length ≤ k := by omega
    rw [Nat.min_eq_right h', List.drop_eq_nil_of_le h', List.drop_eq_nil_of_le (Nat.le_refl _)]
    simp
theorem cut_to (ns : List Int) (k : Nat) : cutV (ns.map V.int) none (some (k : Int)) = (ns.take k).map V.int := by
  unfold cutV
  rw [HT.sIx_nat, HT.sIx_none, List.map_take]
  show List.take (min k (ns.map V.int).length - 0) (List.drop 0 (ns.map V.int)) = _
  rw [Nat.sub_zero, List.drop_zero]
  by_cases h : k ≤ (ns.map V.int).length
  · rw [Nat.min_eq_left h]
  · have h' : (ns.map V.int).length ≤ k := by omega
    rw [Nat.min_eq_right h', List.take_length, List.take_of_length_le h']
theorem cut_but (ns : List Int) : cutV (ns.map V.int) none (some (-1)) = ns.dropLast.map V.int := by
  have e : HT.sIx (ns.map V.int).length (ns.map V.int).length (some (-1)) = ns.length - 1 := by
    show (if (-1 : Int) < 0 then ((-1 : Int) + ((ns.map V.int).length : Int)).toNat else min (-1 : Int).toNat (ns.map V.int).length) = _
    rw [if_pos (by decide), List.length_map]
    show ((-1 : Int) + (ns.length : Int)).toNat = ns.length - 1
    omega
  unfold cutV
  rw [e, HT.sIx_none]
  show List.take (ns.length - 1 - 0) (List.drop 0 (ns.map V.int)) = _
  rw [Nat.sub_zero, List.drop_zero, ← List.map_take, List.dropLast_eq_take]
theorem drop_last_one {ns : List Int} : (ns.drop (ns.length - 1) = [0]) ↔ ns.getLast? = some 0 := by
  constructor
  · intro e
    rw [List.getLast?_eq_getElem?]
    have z := congrArg (fun l => l[0]?) e
    simp only [List.getElem?_drop] at z
    simpa using z
  · intro e
    have s := last_split e
    rw [s]
    simp
end FG

namespace K04
open PySem PySem.Spec PyProof.Rows L2 FG 
/-! ### the text -/
def topS (i : Nat) : Stmt := PySem.Challenge.pw_leanfigures_k04_whole_one_lean_row.main.body.getD i (.Pass ⟨0, 0, 0, 0⟩)
abbrev t_is_whole : Stmt := topS 5
abbrev p_is_whole : List Str := ["thing"]
theorem sc_is_whole : FnScope ["thing"] p_is_whole (defScope t_is_whole) := ⟨rfl, rfl, rfl, by decide +kernel, rfl, by decide +kernel, by decide +kernel⟩
abbrev t_is_figure : Stmt := topS 6
abbrev p_is_figure : List Str := ["thing"]
theorem sc_is_figure : FnScope ["thing"] p_is_figure (defScope t_is_figure) := ⟨rfl, rfl, rfl, by decide +kernel, rfl, by decide +kernel, by decide +kernel⟩
abbrev t_is_row : Stmt := topS 7
abbrev p_is_row : List Str := ["thing"]
theorem sc_is_row : FnScope ["thing", "item"] p_is_row (defScope t_is_row) := ⟨rfl, rfl, rfl, by decide +kernel, rfl, by decide +kernel, by decide +kernel⟩
abbrev t_refuse_no_row : Stmt := topS 8
abbrev p_refuse_no_row : List Str := ["thing"]
theorem sc_refuse_no_row : FnScope ["thing"] p_refuse_no_row (defScope t_refuse_no_row) := ⟨rfl, rfl, rfl, by decide +kernel, rfl, by decide +kernel, by decide +kernel⟩
abbrev t_refuse_no_number : Stmt := topS 9
abbrev p_refuse_no_number : List Str := ["thing"]
theorem sc_refuse_no_number : FnScope ["thing"] p_refuse_no_number (defScope t_refuse_no_number) := ⟨rfl, rfl, rfl, by decide +kernel, rfl, by decide +kernel, by decide +kernel⟩
abbrev t_worth : Stmt := topS 10
abbrev p_worth : List Str := ["row"]
theorem sc_worth : FnScope ["row"] p_worth (defScope t_worth) := ⟨rfl, rfl, rfl, by decide +kernel, rfl, by decide +kernel, by decide +kernel⟩
abbrev t_marked : Stmt := topS 11
abbrev p_marked : List Str := ["row", "figure"]
theorem sc_marked : FnScope ["row", "figure", "marks", "item"] p_marked (defScope t_marked) := ⟨rfl, rfl, rfl, by decide +kernel, rfl, by decide +kernel, by decide +kernel⟩
abbrev t_is_lean : Stmt := topS 12
abbrev p_is_lean : List Str := ["row"]
theorem sc_is_lean : FnScope ["row", "one", "other"] p_is_lean (defScope t_is_lean) := ⟨rfl, rfl, rfl, by decide +kernel, rfl, by decide +kernel, by decide +kernel⟩
abbrev t_lean : Stmt := topS 13
abbrev p_lean : List Str := ["number"]
theorem sc_lean : FnScope ["number", "ups", "downs", "many", "up", "down"] p_lean (defScope t_lean) := ⟨rfl, rfl, rfl, by decide +kernel, rfl, by decide +kernel, by decide +kernel⟩
abbrev t_lean_parts : Stmt := topS 14
abbrev p_lean_parts : List Str := ["number"]
theorem sc_lean_parts : FnScope ["number", "half", "more", "apart"] p_lean_parts (defScope t_lean_parts) := ⟨rfl, rfl, rfl, by decide +kernel, rfl, by decide +kernel, by decide +kernel⟩
abbrev t_places : Stmt := topS 15
abbrev p_places : List Str := ["number", "many"]
theorem sc_places : FnScope ["number", "many", "text"] p_places (defScope t_places) := ⟨rfl, rfl, rfl, by decide +kernel, rfl, by decide +kernel, by decide +kernel⟩
abbrev t_Lcell_at : Stmt := topS 17
abbrev p_Lcell_at : List Str := ["_law_script", "_law_k"]
theorem sc_Lcell_at : FnScope ["_law_script", "_law_k"] p_Lcell_at (defScope t_Lcell_at) := ⟨rfl, rfl, rfl, by decide +kernel, rfl, by decide +kernel, by decide +kernel⟩
abbrev t_Lmixed : Stmt := topS 18
abbrev p_Lmixed : List Str := ["_law_cell", "_law_k"]
theorem sc_Lmixed : FnScope ["_law_cell", "_law_k", "_law_number_here"] p_Lmixed (defScope t_Lmixed) := ⟨rfl, rfl, rfl, by decide +kernel, rfl, by decide +kernel, by decide +kernel⟩
abbrev t_Lworth : Stmt := topS 21
abbrev p_Lworth : List Str := ["_law_row_here"]
theorem sc_Lworth : FnScope ["_law_row_here", "_law_found", "_law_power", "_law_figure"] p_Lworth (defScope t_Lworth) := ⟨rfl, rfl, rfl, by decide +kernel, rfl, by decide +kernel, by decide +kernel⟩
abbrev t_Lrow : Stmt := topS 24
abbrev p_Lrow : List Str := ["_law_script"]
theorem sc_Lrow : FnScope ["_law_script", "_law_found", "_law_k", "_law_cell", "_law_number_here", "_law_gap"] p_Lrow (defScope t_Lrow) := ⟨rfl, rfl, rfl, by decide +kernel, rfl, by decide +kernel, by decide +kernel⟩
abbrev t_Lbent : Stmt := topS 25
abbrev p_Lbent : List Str := ["_law_row_here", "_law_cell"]
theorem sc_Lbent : FnScope ["_law_row_here", "_law_cell", "_law_some", "_law_at", "_law_rest", "_law_bent_here", "_law_found", "_law_k"] p_Lbent (defScope t_Lbent) := ⟨rfl, rfl, rfl, by decide +kernel, rfl, by decide +kernel, by decide +kernel⟩
abbrev t_law : Stmt := topS 26
abbrev p_law : List Str := ["_law_script"]
theorem sc_law : FnScope ["_law_script", "_law_row_here", "_law_other", "_law_one", "_law_handed"] p_law (defScope t_law) := ⟨rfl, rfl, rfl, by decide +kernel, rfl, by decide +kernel, by decide +kernel⟩
/-- what the top has left: where each def stands, and that the built-in names are still the built-in ones -/
structure Txt (K : PySem.W.Frag) (mg : Str → Option Value) where
  a_is_whole : Addr
  d_is_whole : FuncData
  F_is_whole : Fun K "is_whole" "is_whole" t_is_whole a_is_whole d_is_whole
  b_is_whole : Binds K d_is_whole p_is_whole []
  g_is_whole : mg "is_whole" = some (.ref a_is_whole)
  a_is_figure : Addr
  d_is_figure : FuncData
  F_is_figure : Fun K "is_figure" "is_figure" t_is_figure a_is_figure d_is_figure
  b_is_figure : Binds K d_is_figure p_is_figure []
  g_is_figure : mg "is_figure" = some (.ref a_is_figure)
  a_is_row : Addr
  d_is_row : FuncData
  F_is_row : Fun K "is_row" "is_row" t_is_row a_is_row d_is_row
  b_is_row : Binds K d_is_row p_is_row []
  g_is_row : mg "is_row" = some (.ref a_is_row)
  a_refuse_no_row : Addr
  d_refuse_no_row : FuncData
  F_refuse_no_row : Fun K "refuse_no_row" "refuse_no_row" t_refuse_no_row a_refuse_no_row d_refuse_no_row
  b_refuse_no_row : Binds K d_refuse_no_row p_refuse_no_row []
  g_refuse_no_row : mg "refuse_no_row" = some (.ref a_refuse_no_row)
  a_refuse_no_number : Addr
  d_refuse_no_number : FuncData
  F_refuse_no_number : Fun K "refuse_no_number" "refuse_no_number" t_refuse_no_number a_refuse_no_number d_refuse_no_number
  b_refuse_no_number : Binds K d_refuse_no_number p_refuse_no_number []
  g_refuse_no_number : mg "refuse_no_number" = some (.ref a_refuse_no_number)
  a_worth : Addr
  d_worth : FuncData
  F_worth : Fun K "worth" "worth" t_worth a_worth d_worth
  b_worth : Binds K d_worth p_worth []
  g_worth : mg "worth" = some (.ref a_worth)
  a_marked : Addr
  d_marked : FuncData
  F_marked : Fun K "marked" "marked" t_marked a_marked d_marked
  b_marked : Binds K d_marked p_marked []
  g_marked : mg "marked" = some (.ref a_marked)
  a_is_lean : Addr
  d_is_lean : FuncData
  F_is_lean : Fun K "is_lean" "is_lean" t_is_lean a_is_lean d_is_lean
  b_is_lean : Binds K d_is_lean p_is_lean []
  g_is_lean : mg "is_lean" = some (.ref a_is_lean)
  a_lean : Addr
  d_lean : FuncData
  F_lean : Fun K "lean" "lean" t_lean a_lean d_lean
  b_lean : Binds K d_lean p_lean []
  g_lean : mg "lean" = some (.ref a_lean)
  a_lean_parts : Addr
  d_lean_parts : FuncData
  F_lean_parts : Fun K "lean_parts" "lean_parts" t_lean_parts a_lean_parts d_lean_parts
  b_lean_parts : Binds K d_lean_parts p_lean_parts []
  g_lean_parts : mg "lean_parts" = some (.ref a_lean_parts)
  a_places : Addr
  d_places : FuncData
  F_places : Fun K "places" "places" t_places a_places d_places
  b_places : Binds K d_places p_places []
  g_places : mg "places" = some (.ref a_places)
  a_Lcell_at : Addr
  d_Lcell_at : FuncData
  F_Lcell_at : Fun K "_law_cell_at" "_law_cell_at" t_Lcell_at a_Lcell_at d_Lcell_at
  b_Lcell_at : Binds K d_Lcell_at p_Lcell_at []
  g_Lcell_at : mg "_law_cell_at" = some (.ref a_Lcell_at)
  a_Lmixed : Addr
  d_Lmixed : FuncData
  F_Lmixed : Fun K "_law_mixed" "_law_mixed" t_Lmixed a_Lmixed d_Lmixed
  b_Lmixed : Binds K d_Lmixed p_Lmixed []
  g_Lmixed : mg "_law_mixed" = some (.ref a_Lmixed)
  a_Lworth : Addr
  d_Lworth : FuncData
  F_Lworth : Fun K "_law_worth" "_law_worth" t_Lworth a_Lworth d_Lworth
  b_Lworth : Binds K d_Lworth p_Lworth []
  g_Lworth : mg "_law_worth" = some (.ref a_Lworth)
  a_Lrow : Addr
  d_Lrow : FuncData
  F_Lrow : Fun K "_law_row" "_law_row" t_Lrow a_Lrow d_Lrow
  b_Lrow : Binds K d_Lrow p_Lrow []
  g_Lrow : mg "_law_row" = some (.ref a_Lrow)
  a_Lbent : Addr
  d_Lbent : FuncData
  F_Lbent : Fun K "_law_bent" "_law_bent" t_Lbent a_Lbent d_Lbent
  b_Lbent : Binds K d_Lbent p_Lbent []
  g_Lbent : mg "_law_bent" = some (.ref a_Lbent)
  a_law : Addr
  d_law : FuncData
  F_law : Fun K "law" "law" t_law a_law d_law
  b_law : Binds K d_law p_law []
  g_law : mg "law" = some (.ref a_law)
  z_isinstance : mg "isinstance" = none
  z_int : mg "int" = none
  z_bool : mg "bool" = none
  z_list : mg "list" = none
  z_all : mg "all" = none
  z_len : mg "len" = none
  z_reversed : mg "reversed" = none
  z_zip : mg "zip" = none
  z_max : mg "max" = none
  z_enumerate : mg "enumerate" = none
  z_range : mg "range" = none
  c_LeanError : Addr
  gc_LeanError : mg "LeanError" = some (.ref c_LeanError)
  c_NoNumber : Addr
  gc_NoNumber : mg "NoNumber" = some (.ref c_NoNumber)
  c_NoRow : Addr
  gc_NoRow : mg "NoRow" = some (.ref c_NoRow)
  digits : PySem.W.nsIn K cStatics "sys.int_max_str_digits" = some none
section
variable {P : Program} {w : World} {K : PySem.W.Frag} {mg : Str → Option Value} {base : Heap}
/-! ### is_whole -/
def sp_is_whole (K : PySem.W.Frag) : Sp := fun vs H Q _ => ∃ x, vs = [x] ∧ Plain K H x ∧ Q (.bl (intV x)) H
theorem ok_is_whole (T : Txt K mg) : FnOk P w K mg base CX0 1 T.a_is_whole T.d_is_whole p_is_whole (sp_is_whole K) := by
  refine T.F_is_whole.ok sc_is_whole (fun vs H Q E h => ?_) (fun cdv A outer s H vs Q E hr h => ?_)
  · obtain ⟨x, rfl, _⟩ := h
    rfl
  · obtain ⟨x, rfl, ⟨i, b, l, k, e⟩, q⟩ := h
    obtain ⟨t, ty, h1, h2, _⟩ := k.ex
    refine ⟨_, pss_one (ps_ret (pe_and (pe_callB call_isi (by rfl) T.z_isinstance (by decide +kernel) (pa_cons (pv 0) (pa_cons (pe_bltn (v := .ty "int") (by rfl) T.z_int (by decide +kernel) rfl) pa_nil)))
      (pe_one (pe_not (pe_callB call_isi (by rfl) T.z_isinstance (by decide +kernel) (pa_cons (pv 0) (pa_cons (pe_bltn (v := .ty "bool") (by rfl) T.z_bool (by decide +kernel) rfl) pa_nil))))))), ?_⟩
    refine ⟨x, rfl, x, _, t, _, i, rfl, .ty _, ty, h1, i, rfl, ?_⟩
    cases i with
    | true => exact iteT ⟨x, rfl, x, _, t, _, b, rfl, .ty _, ty, h2, b, rfl, by rw [← e] at q; exact q⟩
    | false => exact iteF (by rw [← e] at q; exact q)
/-! ### is_figure -/
def sp_is_figure (K : PySem.W.Frag) : Sp := fun vs H Q _ => ∃ x, vs = [x] ∧ Plain K H x ∧ Q (.bl (figV x)) H
theorem ok_is_figure (T : Txt K mg) : FnOk P w K mg base CX0 2 T.a_is_figure T.d_is_figure p_is_figure (sp_is_figure K) := by
  refine T.F_is_figure.ok sc_is_figure (fun vs H Q E h => ?_) (fun cdv A outer s H vs Q E hr h => ?_)
  · obtain ⟨x, rfl, _⟩ := h
    rfl
  · obtain ⟨x, rfl, k, q⟩ := h
    refine ⟨_, pss_one (ps_ret (pe_and (pe_call (ok_is_whole T) hr (by rfl) T.g_is_whole T.F_is_whole.kp T.b_is_whole .nil pass0 (pa_cons (pv 0) pa_nil))
      (pe_one (pe_chain op_le op_le (pe_un un_neg pe_int) (pv 0) pe_int)))), ?_⟩
    refine ⟨x, rfl, x, rfl, k, _, rfl, ?_⟩
    cases x with
    | int i =>
      refine iteT ⟨1, rfl, .int i, rfl, _, _, rfl, rfl, _, rfl, ?_⟩
      by_cases h0 : -1 ≤ i
      · rw [decide_eq_true h0]
        refine iteT ⟨_, _, rfl, rfl, ?_⟩
        have e : figV (.int i) = decide (i ≤ 1) := by simp [figV, h0]
        rw [e] at q
        exact q
      · rw [decide_eq_false h0]
        have e : figV (.int i) = false := by simp [figV, h0]
        rw [e] at q
        exact iteF q
    | _ => exact iteF q
/-! ### is_row -/
/-- what a list of known things is told -/
def rowB (xs : List V) : Bool := xs.all figV && (xs.isEmpty || !decide (xs.getLast? = some (.int 0)))
def sp_is_row (K : PySem.W.Frag) : Sp := fun vs H Q _ => ∃ x, vs = [x] ∧
  ((∃ i b, Kind K H x i b false ∧ Q (.bl false) H) ∨ ∃ a xs, x = .ref a ∧ SqL K H a xs ∧ (∀ y ∈ xs, Plain K H y) ∧ xs.length ≤ 4000000 ∧ ∀ H', Same H H' → Q (.bl (rowB xs)) H')
theorem ok_is_row (T : Txt K mg) : FnOk P w K mg base CX0 3 T.a_is_row T.d_is_row p_is_row (sp_is_row K) := by
  refine T.F_is_row.ok sc_is_row (fun vs H Q E h => ?_) (fun cdv A outer s H vs Q E hr h => ?_)
  · obtain ⟨x, rfl, _⟩ := h
    rfl
  · obtain ⟨x, rfl, h⟩ := h
    refine ⟨_, pss_cons (ps_if (pt_not (pt_val (pe_callB call_isi (by rfl) T.z_isinstance (by decide +kernel) (pa_cons (pv 0) (pa_cons (pe_bltn (v := .ty "list") (by rfl) T.z_list (by decide +kernel) rfl) pa_nil))))) (pss_one (ps_ret pe_bl)) pss_nil)
      (pss_cons (ps_if (pt_not (pt_val (pe_callB (cr_all rfl) (by rfl) T.z_all (by decide +kernel) (pa_cons (pe_lc (own := [("item", 1)]) (g := gName 1) (tt := tYes) (by rfl) sc_is_row.nd (pi_list (pv 0)) (blkOk_by (N := ["thing", "item"]) (own := [("item", 1)]) (sc := defScope t_is_row) (by decide +kernel))
          (fun _ _ _ _ _ => pg_name (i := 1) sc_is_row.nd rfl (Or.inl rfl)) (fun _ _ _ _ _ => pts_nil)
          (fun _ _ _ _ _ => pe_call (ok_is_figure T) (by exact hr) (by rfl) T.g_is_figure T.F_is_figure.kp T.b_is_figure .nil pass0 (pa_cons (pv 1) pa_nil))) pa_nil)))) (pss_one (ps_ret pe_bl)) pss_nil)
      (pss_one (ps_ret (pe_or (pe_cmpR op_eq (pe_callB call_len_seq (by rfl) T.z_len PySem.boot_len (pa_cons (pv 0) pa_nil)) pe_int (nomark _))
        (pe_one (pe_cmpR op_ne (pe_ix ix_list (pv 0) (pe_un un_neg pe_int) (fun _ _ => rfl)) pe_int (nomark _))))))), ?_⟩
    rcases h with ⟨i, b, k, q⟩ | ⟨a, xs, rfl, hS, hp, hl, q⟩
    · obtain ⟨t, ty, _, _, h3⟩ := k.ex
      refine ⟨x, rfl, x, _, t, _, false, rfl, .ty _, ty, h3, false, rfl, ?_⟩
      exact iteT q
    · obtain ⟨t, ty, _, _, h3⟩ := (kind_list (K := K) (H := H) hS).ex
      refine ⟨.ref a, rfl, .ref a, _, t, _, true, rfl, .ty _, ty, h3, true, rfl, ?_⟩
      refine iteF ?_
      refine ⟨.ref a, rfl, a, rfl, ⟨_, hS⟩, fun D nD => ?_⟩
      have sD : ∀ ys, Same H (upd H D (.lst ys)) := fun ys => same_upd nD
      refine lc_list (K := K) (a := a) (xs := xs) (fun i H1 => H1 = upd H D (.lst ((xs.take i).map fun y => .bl (figV y)))) rfl (fun i H1 _ e => by rw [e]; exact (sD _).seq hS) (fun i y H1 hy e => ?_) (fun H1 e => ?_)
      · subst e
        have py := (hp y (List.mem_of_getElem? hy)).mono (sD ((xs.take i).map fun y => .bl (figV y)))
        refine ⟨rfl, y, rfl, y, rfl, py, _, upd_same, ?_, ?_⟩
        · rw [List.length_map, List.length_take]
          have : xs.length < sizeLine := Nat.lt_of_le_of_lt hl (by decide)
          omega
        · rw [upd_upd, List.take_add_one, hy, List.map_append]
          rfl
      · subst e
        rw [List.take_length]
        have hD : SqL K (upd H D (.lst (xs.map fun y => .bl (figV y)))) D ((xs.map figV).map V.bl) := by
          rw [List.map_map]
          exact SqL.of upd_same
        refine ⟨D, xs.map figV, rfl, hD, _, rfl, ?_⟩
        have ea : (xs.map figV).all id = xs.all figV := by
          rw [List.all_map]
          rfl
        rw [ea]
        have sH : Same H (upd H D (.lst (xs.map fun y => .bl (figV y)))) := sD _
        have q' := q _ sH
        cases hb : xs.all figV with
        | false =>
          have er : rowB xs = false := by simp [rowB, hb]
          rw [er] at q'
          exact iteT q'
        | true =>
          refine iteF ?_
          refine ⟨.ref a, rfl, a, xs, rfl, .inl (sH.seq hS), rfl, _, rfl, ?_⟩
          by_cases h0 : xs = []
          · subst h0
            refine iteT ?_
            exact q'
          · have hne : ¬ ((V.int (xs.length : Int)) = V.int 0) := fun z => h0 (List.length_eq_zero_iff.mp (by have := V.int.inj z; omega))
            rw [decide_eq_false hne]
            have hg := atI_getLast xs h0
            refine iteF ⟨.ref a, rfl, 1, rfl, a, xs, -1, _, rfl, rfl, sH.seq hS, hg, ?_⟩
            have hm : figV (xs.getLast h0) = true := List.all_eq_true.mp hb _ (List.getLast_mem h0)
            have er : rowB xs = !decide (xs.getLast h0 = .int 0) := by
              have e1 : xs.isEmpty = false := by simp [h0]
              simp [rowB, hb, e1, List.getLast?_eq_getLast h0]
            rw [er] at q'
            cases hv : xs.getLast h0 with
            | int j =>
              rw [hv] at q'
              exact ⟨rfl, q'⟩
            | _ => rw [hv] at hm; cases hm
/-! ### refuse_no_row, of rows -/
theorem row_all {ns : List Int} (r : Row ns) : (ns.map V.int).all figV = true := by
  rw [List.all_map, List.all_eq_true]
  intro n hn
  have := r.1 n hn
  simp [figV, this]
theorem row_yes {ns : List Int} (r : Row ns) : rowB (ns.map V.int) = true := by
  have h1 := row_all r
  have h2 : decide ((ns.map V.int).getLast? = some (.int 0)) = false := by
    rw [decide_eq_false_iff_not, List.getLast?_map]
    intro z
    cases e : ns.getLast? with
    | none => rw [e] at z; exact nomatch z
    | some n =>
      rw [e] at z
      have z2 : V.int n = V.int 0 := Option.some.inj z
      exact r.2 (by rw [e, V.int.inj z2])
  unfold rowB
  rw [h1, h2]
  simp
theorem RowAt.plain {K : PySem.W.Frag} {H : Hp} {ns : List Int} : ∀ y ∈ ns.map V.int, Plain K H y := fun y hy => by
  obtain ⟨n, _, rfl⟩ := List.mem_map.mp hy
  exact plain_int n
def sp_refuse (K : PySem.W.Frag) : Sp := fun vs H Q _ => ∃ a ns, vs = [.ref a] ∧ RowAt K H a ns ∧ ∀ H', Same H H' → Q .non H'
theorem ok_refuse_no_row (T : Txt K mg) : FnOk P w K mg base CX0 4 T.a_refuse_no_row T.d_refuse_no_row p_refuse_no_row (sp_refuse K) := by
  refine T.F_refuse_no_row.ok sc_refuse_no_row (fun vs H Q E h => ?_) (fun cdv A outer s H vs Q E hr h => ?_)
  · obtain ⟨x, _, rfl, _⟩ := h
    rfl
  · obtain ⟨a, ns, rfl, hS, q⟩ := h
    refine ⟨_, pss_one (ps_if (pt_not (pt_val (pe_call (ok_is_row T) hr (by rfl) T.g_is_row T.F_is_row.kp T.b_is_row .nil pass0 (pa_cons (pv 0) pa_nil)))) (pss_one ps_never) pss_nil), ?_⟩
    refine ⟨.ref a, rfl, .ref a, rfl, .inr ⟨a, ns.map V.int, rfl, hS.1, RowAt.plain, by rw [List.length_map]; exact hS.2.2, fun H' s' => ?_⟩⟩
    refine ⟨_, rfl, ?_⟩
    rw [row_yes hS.2.1]
    exact iteF (q _ s')
/-! ### marked -/
def sp_marked (K : PySem.W.Frag) : Sp := fun vs H Q _ => ∃ a ns f, vs = [.ref a, .int f] ∧ SqL K H a (ns.map V.int) ∧ ns.length ≤ 4000000 ∧ ∀ H', Same H H' → Q (.int ((mk f ns : Nat) : Int)) H'
theorem ok_marked (T : Txt K mg) : FnOk P w K mg base CX0 1 T.a_marked T.d_marked p_marked (sp_marked K) := by
  refine T.F_marked.ok sc_marked (fun vs H Q E h => ?_) (fun cdv A outer s H vs Q E hr h => ?_)
  · obtain ⟨_, _, _, rfl, _⟩ := h
    rfl
  · obtain ⟨a, ns, f, rfl, hS, hl, q⟩ := h
    refine ⟨_, pss_cons (ps_setLc (i := 2) (own := [("item", 3)]) (g := gName 3) (tt := tYes) (by rfl) sc_marked.nd rfl rfl (sw_true rfl rfl rfl (by decide +kernel)) (pi_reversed (by rfl) T.z_reversed (pa_cons (pv 0) pa_nil))
        (blkOk_by (N := ["row", "figure", "marks", "item"]) (own := [("item", 3)]) (sc := defScope t_marked) (by decide +kernel))
        (fun _ _ _ _ _ => pg_name (i := 3) sc_marked.nd rfl (Or.inl rfl)) (fun _ _ _ _ _ => pts_nil)
        (fun _ _ _ _ _ => pe_ifExp (pt_cmpR op_eq (pv 3) (pv 1) (nomark _)) pe_str pe_str))
      (pss_one (ps_ret (pe_callTy (call_int2 T.digits) (by rfl) T.z_int (by decide +kernel) (pa_cons (pe_op op_add_str pe_str (pe_join pe_str (pv 2))) (pa_cons pe_int pa_nil))))), ?_⟩
    refine ⟨.ref a, rfl, a, ns.map V.int, rfl, hS, fun D nD => ?_⟩
    have sD : ∀ ys, Same H (upd H D (.lst ys)) := fun ys => same_upd nD
    have el : (ns.map V.int).length = ns.length := List.length_map ..
    refine ⟨fun i m H1 => i + m = ns.length ∧ H1 = upd H D (.lst (((ns.reverse.take i).map fun n => .str (sign1 (sg f n))))), ⟨ns.length, by omega, rfl⟩, fun i m H1 hW => ?_⟩
    obtain ⟨em, rfl⟩ := hW
    by_cases hi : i < ns.length
    · have hj : ns.length - 1 - i < ns.length := by omega
      have g : (ns.map V.int)[(ns.map V.int).length - 1 - i]? = some (.int ns[ns.length - 1 - i]) := by
        rw [el, List.getElem?_map, List.getElem?_eq_getElem hj]
        rfl
      have gr : ns.reverse[i]? = some ns[ns.length - 1 - i] := by
        rw [List.getElem?_reverse hi, List.getElem?_eq_getElem hj]
      refine .inr ⟨⟨by rw [el]; exact hi, _, _, (sD _).seq hS, g⟩, fun H' => H' = upd H D (.lst (((ns.reverse.take (i + 1)).map fun n => .str (sign1 (sg f n))))), fun H' e => ⟨m - 1, by omega, by omega, e⟩, fun x H' hy => ?_⟩
      obtain ⟨rfl, fx⟩ := hy
      have ex := Option.some.inj ((fx _ ((sD _).seq hS)).symm.trans g)
      subst ex
      have fin : ∀ z : V, z = .str (sign1 (sg f ns[ns.length - 1 - i])) → ∃ acc, (upd H D (.lst (((ns.reverse.take i).map fun n => .str (sign1 (sg f n)))))) D = some (.lst acc) ∧ acc.length < sizeLine ∧
          upd (upd H D (.lst (((ns.reverse.take i).map fun n => .str (sign1 (sg f n)))))) D (.lst (acc ++ [z])) = upd H D (.lst (((ns.reverse.take (i + 1)).map fun n => .str (sign1 (sg f n))))) := fun z ez => by
        subst ez
        refine ⟨_, upd_same, ?_, ?_⟩
        · rw [List.length_map, List.length_take]
          have : ns.length < sizeLine := Nat.lt_of_le_of_lt hl (by decide)
          omega
        · rw [upd_upd, List.take_add_one, gr, List.map_append]
          rfl
      refine ⟨rfl, .int ns[ns.length - 1 - i], rfl, .int f, rfl, rfl, _, rfl, ?_⟩
      by_cases hf : ns[ns.length - 1 - i] = f
      · rw [decide_eq_true (show V.int ns[ns.length - 1 - i] = V.int f by rw [hf])]
        refine iteT (fin _ ?_)
        rw [show sg f ns[ns.length - 1 - i] = 49 from if_pos hf]
        rfl
      · rw [decide_eq_false (show ¬ V.int ns[ns.length - 1 - i] = V.int f from fun z => hf (V.int.inj z))]
        refine iteF (fin _ ?_)
        rw [show sg f ns[ns.length - 1 - i] = 48 from if_neg hf]
        rfl
    · refine .inl ⟨(show (ns.map V.int).length ≤ i by rw [el]; omega), ?_⟩
      have et : ns.reverse.take i = ns.reverse := List.take_of_length_le (by rw [List.length_reverse]; omega)
      rw [et]
      have hD : SqL K (upd H D (.lst (ns.reverse.map fun n => V.str (sign1 (sg f n))))) D (((ns.reverse.map (sg f)).map sign1).map V.str) := by
        rw [List.map_map, List.map_map]
        exact SqL.of upd_same
      have e1 := joined_signs Str.empty rfl (ns.reverse.map (sg f))
      have l1 : (Txt.join Str.empty ((ns.reverse.map (sg f)).map sign1)).length = ns.length := by
        have := congrArg List.length e1
        rw [Array.length_toList, List.length_map, List.length_reverse] at this
        exact this
      have lim : (16777216 : Nat) = sizeLine := by decide
      refine ⟨⟨_, rfl⟩, .ref D, rfl, Str.empty, D, (ns.reverse.map (sg f)).map sign1, rfl, rfl, .inl hD, ?_, _, _, rfl, rfl, ?_, ?_⟩
      · have e2 : (((ns.reverse.map (sg f)).map sign1).map (·.length)) = List.replicate ns.length 1 := by
          rw [List.map_map, List.map_map]
          refine List.eq_replicate_iff.mpr ⟨by rw [List.length_map, List.length_reverse], fun b hb => ?_⟩
          obtain ⟨n, _, rfl⟩ := List.mem_map.mp hb
          rfl
        rw [e2, List.sum_replicate_nat]
        show ns.length * 1 + _ * 0 ≤ 16777216
        omega
      · rw [l1]
        show 1 + ns.length ≤ sizeLine
        omega
      · have e3 : ((("0" : Str) ++ Txt.join Str.empty ((ns.reverse.map (sg f)).map sign1))).cps.toList = 48 :: (ns.reverse.map (sg f)) := by
          rw [app_list, e1]
          rfl
        refine ⟨_, rfl, ?_, ?_, ?_⟩
        · rw [e3]
          exact sg_bits f ns.reverse
        · rw [e3]
          exact fun z => nomatch z
        · rw [e3, sg_val]
          exact q _ (sD _)
/-! ### worth -/
def sp_worth (K : PySem.W.Frag) : Sp := fun vs H Q _ => ∃ a ns, vs = [.ref a] ∧ RowAt K H a ns ∧ ∀ H', Same H H' → Q (.int (val ns)) H'
theorem ok_worth (T : Txt K mg) : FnOk P w K mg base CX0 5 T.a_worth T.d_worth p_worth (sp_worth K) := by
  refine T.F_worth.ok sc_worth (fun vs H Q E h => ?_) (fun cdv A outer s H vs Q E hr h => ?_)
  · obtain ⟨_, _, rfl, _⟩ := h
    rfl
  · obtain ⟨a, ns, rfl, hS, q⟩ := h
    refine ⟨_, pss_cons (ps_expr (pe_call (ok_refuse_no_row T) hr (by rfl) T.g_refuse_no_row T.F_refuse_no_row.kp T.b_refuse_no_row .nil pass0 (pa_cons (pv 0) pa_nil)))
      (pss_one (ps_ret (pe_op op_sub (pe_call (ok_marked T) (hr.mono (by decide)) (by rfl) T.g_marked T.F_marked.kp T.b_marked .nil pass0 (pa_cons (pv 0) (pa_cons pe_int pa_nil)))
        (pe_call (ok_marked T) (hr.mono (by decide)) (by rfl) T.g_marked T.F_marked.kp T.b_marked .nil pass0 (pa_cons (pv 0) (pa_cons (pe_un un_neg pe_int) pa_nil)))))), ?_⟩
    refine ⟨.ref a, rfl, a, ns, rfl, hS, fun H1 s1 => ?_⟩
    refine ⟨.ref a, rfl, a, ns, 1, rfl, s1.seq hS.1, hS.2.2, fun H2 s2 => ?_⟩
    refine ⟨.ref a, rfl, 1, rfl, a, ns, -1, rfl, s2.seq (s1.seq hS.1), hS.2.2, fun H3 s3 => ?_⟩
    refine ⟨_, _, rfl, rfl, ?_⟩
    show Q (.int (((mk 1 ns : Nat) : Int) - ((mk (-1) ns : Nat) : Int))) H3
    rw [mk_val ns hS.2.1.1]
    exact q _ (s1.trans (s2.trans s3))
/-! ### is_lean -/
theorem gaps_zip : ∀ ns : List Int, gaps ns = (ns.zip (ns.drop 1)).all fun p => decide (p.1 = 0) || decide (p.2 = 0)
  | [] => rfl
  | [_] => rfl
  | x :: y :: r => by
    have ih := gaps_zip (y :: r)
    show ((decide (x = 0) || decide (y = 0)) && gaps (y :: r)) = _
    rw [ih]
    rfl
def sp_is_lean (K : PySem.W.Frag) : Sp := fun vs H Q _ => ∃ a ns, vs = [.ref a] ∧ RowAt K H a ns ∧ ∀ H', Same H H' → Q (.bl (gaps ns)) H'
theorem cutV1 (xs : List V) : cutV xs (some 1) none = xs.drop 1 := by
  unfold cutV
  rw [show HT.sIx xs.length 0 (some 1) = min 1 xs.length from HT.sIx_nat xs.length 0 1, HT.sIx_none]
  match xs with
  | [] => rfl
  | x :: r =>
    have e : min 1 (x :: r).length = 1 := by simp
    rw [e]
    simp
theorem ok_is_lean (T : Txt K mg) : FnOk P w K mg base CX0 5 T.a_is_lean T.d_is_lean p_is_lean (sp_is_lean K) := by
  refine T.F_is_lean.ok sc_is_lean (fun vs H Q E h => ?_) (fun cdv A outer s H vs Q E hr h => ?_)
  · obtain ⟨_, _, rfl, _⟩ := h
    rfl
  · obtain ⟨a, ns, rfl, hS, q⟩ := h
    refine ⟨_, pss_cons (ps_expr (pe_call (ok_refuse_no_row T) hr (by rfl) T.g_refuse_no_row T.F_refuse_no_row.kp T.b_refuse_no_row .nil pass0 (pa_cons (pv 0) pa_nil)))
      (pss_one (ps_ret (pe_callB (cr_all rfl) (by rfl) T.z_all (by decide +kernel) (pa_cons (pe_lc (own := [("one", 1), ("other", 2)]) (g := gTup K 2 (gCons (gName 1) (gCons (gName 2) gNil))) (tt := tYes) (by rfl) sc_is_lean.nd
          (pi_zip (by rfl) T.z_zip (pa_cons (pv 0) (pa_cons (pe_slice sl_list (pv 0) (po_some pe_int) po_none) pa_nil)))
          (blkOk_by (N := ["row", "one", "other"]) (own := [("one", 1), ("other", 2)]) (sc := defScope t_is_lean) (by decide +kernel))
          (fun _ _ _ _ _ => by exact pg_tup rfl (pgs_cons (pg_name (i := 1) sc_is_lean.nd rfl (Or.inl rfl)) (pgs_cons (pg_name (i := 2) sc_is_lean.nd rfl (Or.inl rfl)) pgs_nil)))
          (fun _ _ _ _ _ => pts_nil)
          (fun _ _ _ _ _ => pe_or (pe_cmpR op_eq (pv 1) pe_int (nomark _)) (pe_one (pe_cmpR op_eq (pv 2) pe_int (nomark _))))) pa_nil)))), ?_⟩
    refine ⟨.ref a, rfl, a, ns, rfl, hS, fun H1 s1 => ?_⟩
    have hA := s1.seq hS.1
    refine ⟨.ref a, rfl, .ref a, rfl, 1, rfl, a, ns.map V.int, rfl, hA, fun c nc => ?_⟩
    have s2 : Same H1 (upd H1 c (.lst (cutV (ns.map V.int) (some 1) none))) := same_upd nc
    have ec : cutV (ns.map V.int) (some 1) none = (ns.drop 1).map V.int := by rw [cutV1, List.map_drop]
    rw [ec] at s2 ⊢
    have hC : SqL K (upd H1 c (.lst ((ns.drop 1).map V.int))) c ((ns.drop 1).map V.int) := SqL.of upd_same
    refine ⟨a, c, ns.map V.int, _, rfl, s2.seq hA, hC, fun D nD => ?_⟩
    let B := (ns.zip (ns.drop 1)).map fun p => decide (p.1 = 0) || decide (p.2 = 0)
    have lB : B.length = ns.length - 1 := by
      show ((ns.zip (ns.drop 1)).map _).length = _
      rw [List.length_map, List.length_zip, List.length_drop]
      omega
    generalize hH2 : upd H1 c (.lst ((ns.drop 1).map V.int)) = H2 at s2 hC nD
    have sD : ∀ ys, Same H2 (upd H2 D (.lst ys)) := fun ys => same_upd nD
    refine ⟨fun i m H3 => i + m = ns.length - 1 ∧ Same H2 H3 ∧ H3 D = some (.lst ((B.take i).map V.bl)), ⟨ns.length - 1, by omega, sD _, upd_same⟩, fun i m H3 hW => ?_⟩
    obtain ⟨em, s3, eD⟩ := hW
    have hA3 := s3.seq (s2.seq hA)
    have hC3 := s3.seq hC
    by_cases hi : i < ns.length - 1
    · have h1 : i < ns.length := by omega
      have h2 : i + 1 < ns.length := by omega
      have g1 : (ns.map V.int)[i]? = some (.int ns[i]) := by
        rw [List.getElem?_map, List.getElem?_eq_getElem h1]
        rfl
      have g2 : ((ns.drop 1).map V.int)[i]? = some (.int ns[i + 1]) := by
        rw [List.getElem?_map, List.getElem?_drop, Nat.add_comm 1 i, List.getElem?_eq_getElem h2]
        rfl
      have gB : B[i]? = some (decide (ns[i] = 0) || decide (ns[i + 1] = 0)) := by
        show ((ns.zip (ns.drop 1)).map _)[i]? = _
        have z : (ns.zip (ns.drop 1))[i]? = some (ns[i], ns[i + 1]) := by
          rw [List.getElem?_zip_eq_some]
          exact ⟨List.getElem?_eq_getElem h1, by rw [List.getElem?_drop, Nat.add_comm 1 i, List.getElem?_eq_getElem h2]⟩
        rw [List.getElem?_map, z]
        rfl
      refine .inr ⟨⟨_, _, _, _, hA3, hC3, g1, g2⟩, fun H' => Same H2 H' ∧ H' D = some (.lst ((B.take (i + 1)).map V.bl)), fun H' e => ⟨m - 1, by omega, by omega, e⟩, fun x H' hy => ?_⟩
      obtain ⟨t, x1, x2, rfl, nT, rfl, f1, f2⟩ := hy
      have ex1 := Option.some.inj ((f1 _ hA3).symm.trans g1)
      have ex2 := Option.some.inj ((f2 _ hC3).symm.trans g2)
      subst ex1
      subst ex2
      have sT : Same H3 (upd H3 t (.tup [.int ns[i], .int ns[i + 1]])) := same_upd nT
      have eD' := sT _ _ eD
      have fin : ∀ b : Bool, b = (decide (ns[i] = 0) || decide (ns[i + 1] = 0)) → ∃ acc, (upd H3 t (.tup [.int ns[i], .int ns[i + 1]])) D = some (.lst acc) ∧ acc.length < sizeLine ∧
          Same H2 (upd (upd H3 t (.tup [.int ns[i], .int ns[i + 1]])) D (.lst (acc ++ [.bl b]))) ∧ (upd (upd H3 t (.tup [.int ns[i], .int ns[i + 1]])) D (.lst (acc ++ [.bl b]))) D = some (.lst ((B.take (i + 1)).map V.bl)) := fun b eb => by
        refine ⟨_, eD', ?_, fun q o e => ?_, ?_⟩
        · rw [List.length_map, List.length_take]
          have : ns.length < sizeLine := Nat.lt_of_le_of_lt hS.2.2 (by decide)
          omega
        · have nq : q ≠ D := ne_of_none e nD
          rw [upd_ne nq]
          exact sT _ _ (s3 _ _ e)
        · rw [upd_same, List.take_add_one, gB, List.map_append, eb]
          rfl
      refine ⟨t, [.int ns[i], .int ns[i + 1]], rfl, SqT.of upd_same, rfl, _, _, rfl, _, _, rfl, rfl, rfl, ?_⟩
      refine ⟨.int ns[i], rfl, rfl, _, rfl, ?_⟩
      by_cases h0 : ns[i] = 0
      · rw [decide_eq_true (show V.int ns[i] = V.int 0 by rw [h0])]
        exact iteT (fin true (by simp [h0]))
      · rw [decide_eq_false (show ¬ V.int ns[i] = V.int 0 from fun z => h0 (V.int.inj z))]
        refine iteF ⟨.int ns[i + 1], rfl, rfl, fin _ ?_⟩
        have e2 : decide (V.int ns[i + 1] = V.int 0) = decide (ns[i + 1] = 0) := decide_eq_decide.mpr ⟨V.int.inj, fun z => by rw [z]⟩
        rw [e2]
        simp [h0]
    · refine .inl ⟨⟨_, _, hA3, hC3, .inr (by rw [List.length_map, List.length_drop]; omega)⟩, ?_⟩
      have et : B.take i = B := List.take_of_length_le (by omega)
      rw [et] at eD
      refine ⟨D, B, rfl, SqL.of eD, ?_⟩
      have e : B.all id = gaps ns := by
        rw [gaps_zip]
        show ((ns.zip (ns.drop 1)).map _).all id = _
        rw [List.all_map]
        rfl
      rw [e]
      exact q _ (s1.trans (s2.trans s3))
/-! ### refuse_no_number, of numbers -/
def sp_refuse_number : Sp := fun vs H Q _ => ∃ n : Int, vs = [.int n] ∧ Q .non H
theorem ok_refuse_no_number (T : Txt K mg) : FnOk P w K mg base CX0 2 T.a_refuse_no_number T.d_refuse_no_number p_refuse_no_number sp_refuse_number := by
  refine T.F_refuse_no_number.ok sc_refuse_no_number (fun vs H Q E h => ?_) (fun cdv A outer s H vs Q E hr h => ?_)
  · obtain ⟨_, rfl, _⟩ := h
    rfl
  · obtain ⟨n, rfl, q⟩ := h
    refine ⟨_, pss_one (ps_if (pt_not (pt_val (pe_call (ok_is_whole T) hr (by rfl) T.g_is_whole T.F_is_whole.kp T.b_is_whole .nil pass0 (pa_cons (pv 0) pa_nil)))) (pss_one ps_never) pss_nil), ?_⟩
    refine ⟨.int n, rfl, .int n, rfl, plain_int n, _, rfl, ?_⟩
    exact iteF q
/-! ### places -/
def sp_places (K : PySem.W.Frag) : Sp := fun vs H Q _ => ∃ (x L : Nat), vs = [.int (x : Int), .int ((L + 1 : Nat) : Int)] ∧ x < 2 ^ (L + 1) ∧ L + 1 ≤ 4000000 ∧ ∀ y : Str, y.cps.toList = bitsLE (L + 1) x → Q (.str y) H
theorem ok_places (T : Txt K mg) : FnOk P w K mg base CX0 1 T.a_places T.d_places p_places (sp_places K) := by
  refine T.F_places.ok sc_places (fun vs H Q E h => ?_) (fun cdv A outer s H vs Q E hr h => ?_)
  · obtain ⟨_, _, rfl, _⟩ := h
    rfl
  · obtain ⟨x, L, rfl, hx, hL, q⟩ := h
    refine ⟨_, pss_cons (ps_set (i := 2) sc_places.nd rfl (.inl rfl) (pe_joined1 (pe_fmtB (pv 0))))
      (pss_one (ps_ret (pe_revT (pe_bm PySem.F.plainAttrs_str PySem.F.slot_str_zfill PySem.F.type_str_zfill mt_zfill (pv 2) (pa_cons (pv 1) pa_nil))))), ?_⟩
    obtain ⟨l1, l2⟩ := digs_bits L x hx
    have lt := binText_len x
    have lim : (4000001 : Nat) ≤ sizeLine := by decide
    refine ⟨.int x, rfl, (x : Int), rfl, by omega, ?_⟩
    have hf := filled hx
    have lf : (Txt.zfill (XB.binText (x : Int)) ((L + 1 : Nat) : Int)).length = L + 1 := by
      have := congrArg List.length hf
      rw [List.length_reverse, Array.length_toList, bitsLE_len] at this
      exact this
    refine ⟨.str (XB.binText (x : Int)), rfl, rfl, .int ((L + 1 : Nat) : Int), rfl, XB.binText (x : Int), ((L + 1 : Nat) : Int), rfl, rfl, ?_, _, rfl, by rw [lf]; omega, fun y hy => ?_⟩
    · unfold PadOk fitsSsize
      rw [Bool.and_eq_true]
      refine ⟨?_, ?_⟩
      · simp
        omega
      · have : Builtin.Str.tooLong (L + 1) = false := by
          unfold Builtin.Str.tooLong
          simp
          omega
        rw [Int.toNat_natCast, this]
        rfl
    · rw [hf] at hy
      exact q y hy
/-! ### lean_parts -/
def upsOf (n : Int) : Int := PySem.Builtin.bitAnd (n + n / 2) (PySem.Builtin.bitXor (n + n / 2) (n / 2))
def downsOf (n : Int) : Int := PySem.Builtin.bitAnd (n / 2) (PySem.Builtin.bitXor (n + n / 2) (n / 2))
theorem ups_pos (n : Int) : 0 ≤ upsOf n ∧ 0 ≤ downsOf n := by
  obtain ⟨x0, _⟩ := lean_facts (n := n) (N := n.natAbs) Nat.lt_two_pow_self
  exact ⟨(and_bounds x0).1, (and_bounds x0).1⟩
def sp_lean_parts : Sp := fun vs H Q _ => ∃ n : Int, vs = [.int n] ∧ ∀ H' p, Same H H' → H p = none → H' p = some (.tup [.int (upsOf n), .int (downsOf n)]) → Q (.ref p) H'
theorem ok_lean_parts (T : Txt K mg) : FnOk P w K mg base CX0 1 T.a_lean_parts T.d_lean_parts p_lean_parts sp_lean_parts := by
  refine T.F_lean_parts.ok sc_lean_parts (fun vs H Q E h => ?_) (fun cdv A outer s H vs Q E hr h => ?_)
  · obtain ⟨_, rfl, _⟩ := h
    rfl
  · obtain ⟨n, rfl, q⟩ := h
    refine ⟨_, pss_cons (ps_set (i := 1) sc_lean_parts.nd rfl (.inl rfl) (pe_op op_shr (pv 0) pe_int))
      (pss_cons (ps_set (i := 2) sc_lean_parts.nd rfl (.inl rfl) (pe_op op_add (pv 0) (pv 1)))
      (pss_cons (ps_set (i := 3) sc_lean_parts.nd rfl (.inl rfl) (pe_op op_xor (pv 2) (pv 1)))
      (pss_one (ps_ret (pe_tup (pa_cons (pe_op op_and (pv 2) (pv 3)) (pa_cons (pe_op op_and (pv 1) (pv 3)) pa_nil))))))), ?_⟩
    refine ⟨.int n, rfl, _, _, rfl, rfl, (by show (0 : Int) ≤ 1; decide), ?_⟩
    refine ⟨.int n, rfl, .int (n / 2), rfl, _, _, rfl, rfl, ?_⟩
    refine ⟨.int (n + n / 2), rfl, .int (n / 2), rfl, _, _, rfl, rfl, ?_⟩
    refine ⟨.int (n + n / 2), rfl, .int (PySem.Builtin.bitXor (n + n / 2) (n / 2)), rfl, _, _, rfl, rfl, .int (n / 2), rfl, .int (PySem.Builtin.bitXor (n + n / 2) (n / 2)), rfl, _, _, rfl, rfl, (by show 2 ≤ sizeLine; decide), fun p np => ?_⟩
    exact q _ p (same_upd np) np upd_same
/-! ### lean -/
theorem int_bit {c : Nat} (h : c = 48 ∨ c = 49) : PySem.intText? (sign1 c) = some ((c : Int) - 48) := by
  rcases h with e | e <;> subst e <;> decide +kernel
def sp_lean (K : PySem.W.Frag) : Sp := fun vs H Q _ => ∃ (n : Int) (N : Nat), vs = [.int n] ∧ n.natAbs < 2 ^ N ∧ N ≤ 3000000 ∧
  ∀ H' p r, Same H H' → H p = none → Row r → gaps r = true → val r = n → r.length ≤ N + 1 → H' p = some (.lst (r.map V.int)) → Q (.ref p) H'
theorem ok_lean (T : Txt K mg) : FnOk P w K mg base CX0 3 T.a_lean T.d_lean p_lean (sp_lean K) := by
  refine T.F_lean.ok sc_lean (fun vs H Q E h => ?_) (fun cdv A outer s H vs Q E hr h => ?_)
  · obtain ⟨_, _, rfl, _⟩ := h
    rfl
  · obtain ⟨n, N, rfl, hn, hN, q⟩ := h
    refine ⟨_, pss_cons (ps_expr (pe_call (ok_refuse_no_number T) hr (by rfl) T.g_refuse_no_number T.F_refuse_no_number.kp T.b_refuse_no_number .nil pass0 (pa_cons (pv 0) pa_nil)))
      (pss_cons (ps_if (pt_cmpR op_eq (pv 0) pe_int (nomark _)) (pss_one (ps_ret (pe_lst pa_nil))) pss_nil)
      (pss_cons (ps_asg (pe_call (ok_lean_parts T) (hr.mono (by decide)) (by rfl) T.g_lean_parts T.F_lean_parts.kp T.b_lean_parts .nil pass0 (pa_cons (pv 0) pa_nil)) (pg_tup rfl (pgs_cons (pg_name (i := 1) sc_lean.nd rfl (.inl rfl)) (pgs_cons (pg_name (i := 2) sc_lean.nd rfl (.inl rfl)) pgs_nil))))
      (pss_cons (ps_set (i := 3) sc_lean.nd rfl (.inl rfl) (pe_bits (pe_callB (call_max2 rfl) (by rfl) T.z_max (by decide +kernel) (pa_cons (pv 1) (pa_cons (pv 2) pa_nil)))))
      (pss_one (ps_ret (pe_lc (own := [("up", 4), ("down", 5)]) (g := gTup K 2 (gCons (gName 4) (gCons (gName 5) gNil))) (tt := tYes) (by rfl) sc_lean.nd (pi_zipS (by rfl) T.z_zip (pa_cons (pe_call (ok_places T) (hr.mono (by decide)) (by rfl) T.g_places T.F_places.kp T.b_places .nil pass0 (pa_cons (pv 1) (pa_cons (pv 3) pa_nil))) (pa_cons (pe_call (ok_places T) (hr.mono (by decide)) (by rfl) T.g_places T.F_places.kp T.b_places .nil pass0 (pa_cons (pv 2) (pa_cons (pv 3) pa_nil))) pa_nil)))
          (blkOk_by (N := ["number", "ups", "downs", "many", "up", "down"]) (own := [("up", 4), ("down", 5)]) (sc := defScope t_lean) (by decide +kernel))
          (fun _ _ _ _ _ => by exact pg_tup rfl (pgs_cons (pg_name (i := 4) sc_lean.nd rfl (Or.inl rfl)) (pgs_cons (pg_name (i := 5) sc_lean.nd rfl (Or.inl rfl)) pgs_nil)))
          (fun _ _ _ _ _ => pts_nil)
          (fun _ _ _ _ _ => pe_op op_sub (pe_callTy call_int_str (by rfl) T.z_int (by decide +kernel) (pa_cons (pv 4) pa_nil)) (pe_callTy call_int_str (by rfl) T.z_int (by decide +kernel) (pa_cons (pv 5) pa_nil))))))))), ?_⟩
    refine ⟨.int n, rfl, n, rfl, ?_⟩
    refine ⟨.int n, rfl, rfl, _, rfl, ?_⟩
    by_cases h0 : n = 0
    · subst h0
      rw [decide_eq_true rfl]
      refine iteT ⟨Nat.zero_le _, fun p np => ?_⟩
      exact q _ p [] (same_upd np) np ⟨(fun _ hm => nomatch hm), fun z => nomatch z⟩ rfl rfl (Nat.zero_le _) upd_same
    · rw [decide_eq_false (show ¬ V.int n = V.int 0 from fun z => h0 (V.int.inj z))]
      refine iteF ?_
      obtain ⟨L, hb, hL, ha, hd, rr, rg, rv⟩ := XParts.parts_row h0 hn
      obtain ⟨x0, _⟩ := lean_facts hn
      have ed : List.zipWith (fun a b : Nat => (a : Int) - (b : Int)) (bitsLE (L + 1) (upsOf n).toNat) (bitsLE (L + 1) (downsOf n).toNat) = dig (L + 1) (n + n / 2) (n / 2) := bits_dig (L + 1) (n + n / 2) (n / 2) x0
      obtain ⟨a0, b0⟩ := ups_pos n
      refine ⟨.int n, rfl, n, rfl, fun H0 p0 s0 np0 e0 => ?_⟩
      refine ⟨p0, _, rfl, SqT.of e0, rfl, _, _, rfl, _, _, rfl, rfl, ?_⟩
      refine ⟨.int (upsOf n), rfl, .int (downsOf n), rfl, upsOf n, downsOf n, rfl, _, rfl, ?_⟩
      have hb' : Builtin.Int.intBits (if downsOf n > upsOf n then downsOf n else upsOf n) = L + 1 := hb
      rw [hb']
      refine ⟨.int (upsOf n), rfl, .int ((L + 1 : Nat) : Int), rfl, (upsOf n).toNat, L, ?_, ha, by omega, fun y1 e1 => ?_⟩
      · rw [Int.toNat_of_nonneg a0]
        rfl
      refine ⟨.int (downsOf n), rfl, .int ((L + 1 : Nat) : Int), rfl, (downsOf n).toNat, L, ?_, hd, by omega, fun y2 e2 => ?_⟩
      · rw [Int.toNat_of_nonneg b0]
        rfl
      refine ⟨y1, y2, rfl, fun D nD => ?_⟩
      have z1 : y1.cps.size = L + 1 := by
        have := congrArg List.length e1
        rw [Array.length_toList, bitsLE_len] at this
        exact this
      have z2 : y2.cps.size = L + 1 := by
        have := congrArg List.length e2
        rw [Array.length_toList, bitsLE_len] at this
        exact this
      have ld := dig_len (L + 1) (n + n / 2) (n / 2)
      generalize dig (L + 1) (n + n / 2) (n / 2) = R at ed rr rg rv ld
      have nD' : H D = none := XParts.none_back s0 nD
      refine ⟨fun i m H3 => i + m = L + 1 ∧ Same H H3 ∧ H3 D = some (.lst ((R.take i).map V.int)), ⟨L + 1, by omega, s0.trans (same_upd nD), upd_same⟩, fun i m H3 hW => ?_⟩
      obtain ⟨em, s3, eD⟩ := hW
      by_cases hi : i < L + 1
      · refine .inr ⟨⟨by rw [z1]; exact hi, by rw [z2]; exact hi⟩, fun H' => Same H H' ∧ H' D = some (.lst ((R.take (i + 1)).map V.int)), fun H' e => ⟨m - 1, by omega, by omega, e⟩, fun x H' hy => ?_⟩
        obtain ⟨t, c, d, rfl, nt, rfl, ec, ee⟩ := hy
        rw [← Array.getElem?_toList, e1] at ec
        rw [← Array.getElem?_toList, e2] at ee
        obtain ⟨c', hc1, hc2⟩ := bitsLE_get (L + 1) (upsOf n).toNat i hi
        obtain ⟨d', hd1, hd2⟩ := bitsLE_get (L + 1) (downsOf n).toNat i hi
        have cc : c = c' := Option.some.inj (ec.symm.trans hc1)
        have dd : d = d' := Option.some.inj (ee.symm.trans hd1)
        subst cc
        subst dd
        have gR : R[i]? = some ((c : Int) - (d : Int)) := by
          rw [← ed, List.getElem?_zipWith, ec, ee]
        have sT : Same H3 (upd H3 t (.tup [.str (sign1 c), .str (sign1 d)])) := same_upd nt
        have eT := sT _ _ eD
        refine ⟨t, [.str (sign1 c), .str (sign1 d)], rfl, SqT.of upd_same, rfl, _, _, rfl, _, _, rfl, rfl, rfl, ?_⟩
        refine ⟨.str (sign1 c), rfl, sign1 c, _, rfl, int_bit hc2, (by show 1 ≤ 640; decide), .str (sign1 d), rfl, sign1 d, _, rfl, int_bit hd2, (by show 1 ≤ 640; decide), _, _, rfl, rfl, _, eT, ?_, fun b o e => ?_, ?_⟩
        · rw [List.length_map, List.length_take]
          have : L + 1 < sizeLine := Nat.lt_of_le_of_lt (show L + 1 ≤ 3000001 by omega) (by decide)
          omega
        · have nb : b ≠ D := ne_of_none e nD'
          rw [upd_ne nb]
          exact sT _ _ (s3 _ _ e)
        · rw [upd_same, List.take_add_one, gR, List.map_append]
          have ez : (c : Int) - 48 - ((d : Int) - 48) = (c : Int) - (d : Int) := by omega
          show some (HO.lst (_ ++ [V.int ((c : Int) - 48 - ((d : Int) - 48))])) = _
          rw [ez]
          rfl
      · refine .inl ⟨.inl (by rw [z1]; omega), ?_⟩
        have et : R.take i = R := List.take_of_length_le (by omega)
        rw [et] at eD
        exact q H3 D R s3 nD' rr rg rv (by omega) eD
/-! ### the law's cell_at -/
def cell (ns : List Int) (k : Nat) : Int := ns.getD k 0
def sp_Lcell_at (K : PySem.W.Frag) : Sp := fun vs H Q _ => ∃ (a : Addr) (ns : List Int) (k : Nat), vs = [.ref a, .int (k : Int)] ∧ SqL K H a (ns.map V.int) ∧ Q (.int (cell ns k)) H
theorem ok_Lcell_at (T : Txt K mg) : FnOk P w K mg base CX0 1 T.a_Lcell_at T.d_Lcell_at p_Lcell_at (sp_Lcell_at K) := by
  refine T.F_Lcell_at.ok sc_Lcell_at (fun vs H Q E h => ?_) (fun cdv A outer s H vs Q E hr h => ?_)
  · obtain ⟨_, _, _, rfl, _⟩ := h
    rfl
  · obtain ⟨a, ns, k, rfl, hS, q⟩ := h
    refine ⟨_, pss_cons (ps_if (pt_cmpR op_lt (pv 1) (pe_callB call_len_seq (by rfl) T.z_len PySem.boot_len (pa_cons (pv 0) pa_nil)) (nomark _)) (pss_one (ps_ret (pe_ix ix_list (pv 0) (pv 1) (fun _ _ => rfl)))) pss_nil)
      (pss_one (ps_ret pe_int)), ?_⟩
    refine ⟨.int k, rfl, .ref a, rfl, a, ns.map V.int, rfl, .inl hS, _, _, rfl, rfl, _, rfl, ite2 (fun c => ?_) (fun c => ?_)⟩
    · have c' : (k : Int) < ((ns.map V.int).length : Int) := of_decide_eq_true c
      rw [List.length_map] at c'
      have hk : k < ns.length := by omega
      have g : (ns.map V.int)[k]? = some (.int ns[k]) := by
        rw [List.getElem?_map, List.getElem?_eq_getElem hk]
        rfl
      refine ⟨.ref a, rfl, .int k, rfl, a, _, (k : Int), .int ns[k], rfl, rfl, hS, atI_nat g, ?_⟩
      have e : cell ns k = ns[k] := by simp [cell, List.getD, hk]
      rw [e] at q
      exact q
    · have c' : ¬ (k : Int) < ((ns.map V.int).length : Int) := fun z => c (decide_eq_true z)
      rw [List.length_map] at c'
      have hk : ns.length ≤ k := by omega
      have e : cell ns k = 0 := by simp [cell, List.getD, hk]
      rw [e] at q
      exact q
/-! ### the law's mixed -/
def mixA (c : Int) : Int := (c % 1000000007 + 1) * 48271 % 2147483647
def mixd (c k : Int) : Int := mixA c * (16807 + 7919 * k * k + 31 * k) % 2147483629 / 7
theorem mixA_b (c : Int) : 0 ≤ mixA c ∧ mixA c < 2147483647 := ⟨Int.emod_nonneg _ (by decide), Int.emod_lt_of_pos _ (by decide)⟩
theorem mixd_b (c k : Int) : 0 ≤ mixd c k ∧ mixd c k < 2147483629 := by
  have h1 := Int.emod_nonneg (mixA c * (16807 + 7919 * k * k + 31 * k)) (show (2147483629 : Int) ≠ 0 by decide)
  have h2 := Int.emod_lt_of_pos (mixA c * (16807 + 7919 * k * k + 31 * k)) (show (0 : Int) < 2147483629 by decide)
  unfold mixd
  omega
def sp_Lmixed (K : PySem.W.Frag) : Sp := fun vs H Q _ => ∃ c k : Int, vs = [.int c, .int k] ∧ 0 ≤ k ∧ k ≤ 1000 ∧ Q (.int (mixd c k)) H
theorem ok_Lmixed (T : Txt K mg) : FnOk P w K mg base CX0 1 T.a_Lmixed T.d_Lmixed p_Lmixed (sp_Lmixed K) := by
  refine T.F_Lmixed.ok sc_Lmixed (fun vs H Q E h => ?_) (fun cdv A outer s H vs Q E hr h => ?_)
  · obtain ⟨_, _, rfl, _⟩ := h
    rfl
  · obtain ⟨c, k, rfl, h0, h1, q⟩ := h
    refine ⟨_, pss_cons (ps_set (i := 2) sc_Lmixed.nd rfl (.inl rfl) (pe_op op_mod (pe_op op_mul (pe_op op_add (pe_op op_mod (pv 0) pe_int) pe_int) pe_int) pe_int))
      (pss_one (ps_ret (pe_op op_fdiv (pe_op op_mod (pe_op op_mul (pv 2) (pe_op op_add (pe_op op_add pe_int (pe_op op_mul (pe_op op_mul pe_int (pv 1)) (pv 1))) (pe_op op_mul pe_int (pv 1)))) pe_int) pe_int))), ?_⟩
    have b1 := Int.emod_nonneg c (show (1000000007 : Int) ≠ 0 by decide)
    have b2 := Int.emod_lt_of_pos c (show (0 : Int) < 1000000007 by decide)
    refine ⟨.int c, rfl, _, _, rfl, rfl, (by show (0 : Int) < 1000000007; decide), _, _, rfl, rfl, _, _, rfl, rfl, .inr (by show -(2 ^ 64 : Int) < 48271 ∧ (48271 : Int) < 2 ^ 64; decide), _, _, rfl, rfl, (by show (0 : Int) < 2147483647; decide), ?_⟩
    have b3 := mixA_b c
    refine ⟨.int (mixA c), rfl, .int k, rfl, _, _, rfl, rfl, .inl (by show -(2 ^ 64 : Int) < 7919 ∧ (7919 : Int) < 2 ^ 64; decide), .int k, rfl, _, _, rfl, rfl, .inr (by show -(2 ^ 64 : Int) < k ∧ k < 2 ^ 64; omega), _, _, rfl, rfl, .int k, rfl, _, _, rfl, rfl, .inl (by show -(2 ^ 64 : Int) < 31 ∧ (31 : Int) < 2 ^ 64; decide),
      _, _, rfl, rfl, _, _, rfl, rfl, .inl (by show -(2 ^ 64 : Int) < mixA c ∧ mixA c < 2 ^ 64; omega), _, _, rfl, rfl, (by show (0 : Int) < 2147483629; decide), _, _, rfl, rfl, ⟨by decide, by decide⟩, ?_⟩
    exact q
/-! ### the law's worth -/
def sp_Lworth (K : PySem.W.Frag) : Sp := fun vs H Q _ => ∃ (a : Addr) (ns : List Int), vs = [.ref a] ∧ SqL K H a (ns.map V.int) ∧ (∀ n ∈ ns, -1 ≤ n ∧ n ≤ 1) ∧ ns.length ≤ 4000000 ∧ Q (.int (val ns)) H
theorem ok_Lworth (T : Txt K mg) : FnOk P w K mg base CX0 1 T.a_Lworth T.d_Lworth p_Lworth (sp_Lworth K) := by
  refine T.F_Lworth.ok sc_Lworth (fun vs H Q E h => ?_) (fun cdv A outer s H vs Q E hr h => ?_)
  · obtain ⟨_, _, rfl, _⟩ := h
    rfl
  · obtain ⟨a, ns, rfl, hS, hb, hl, q⟩ := h
    refine ⟨_, pss_cons (ps_set (i := 1) sc_Lworth.nd rfl (.inl rfl) pe_int) (pss_cons (ps_set (i := 2) sc_Lworth.nd rfl (.inl rfl) pe_int)
      (pss_cons (ps_for PassesOwn.never rfl (pi_list (pv 0)) (pg_name (i := 3) sc_Lworth.nd rfl (.inl rfl))
        (pss_cons (ps_set (i := 1) sc_Lworth.nd rfl (.inl rfl) (pe_op op_add (pv 1) (pe_op op_mul (pv 3) (pv 2))))
        (pss_one (ps_set (i := 2) sc_Lworth.nd rfl (.inl rfl) (pe_op op_mul (pv 2) pe_int)))))
      (pss_one (ps_ret (pv 1))))), ?_⟩
    refine ⟨.ref a, rfl, a, rfl, ⟨_, hS⟩, ?_⟩
    refine for_list (xs := ns.map V.int) (fun i σ H1 => H1 = H ∧ ∃ y, σ = [some (.ref a), some (.int (val (ns.take i))), some (.int (2 ^ i)), y]) ⟨rfl, _, rfl⟩ (fun i σ H1 _ e => by rw [e.1]; exact hS) (fun i x σ H1 hx e => ?_) (fun σ H1 e => ?_)
    · obtain ⟨rfl, y, rfl⟩ := e
      have hi : i < ns.length := by
        have := (List.getElem?_eq_some_iff.mp hx).1
        rwa [List.length_map] at this
      have ex : x = .int ns[i] := by
        rw [List.getElem?_map, List.getElem?_eq_getElem hi] at hx
        exact (Option.some.inj hx).symm
      subst ex
      have hn := hb ns[i] (List.getElem_mem hi)
      refine ⟨_, rfl, _, rfl, _, rfl, _, _, rfl, rfl, .inl (by show -(2 ^ 64 : Int) < ns[i] ∧ ns[i] < 2 ^ 64; omega), _, _, rfl, rfl, ?_⟩
      refine ⟨_, rfl, _, _, rfl, rfl, .inr (by show -(2 ^ 64 : Int) < 2 ∧ (2 : Int) < 2 ^ 64; decide), ?_⟩
      refine ⟨rfl, some (.int ns[i]), ?_⟩
      rw [val_take hi]
      rfl
    · obtain ⟨rfl, y, rfl⟩ := e
      have e2 : ns.take (ns.map V.int).length = ns := by
        rw [List.length_map, List.take_length]
      rw [e2]
      exact ⟨_, rfl, q⟩
/-! ### the law's row -/
def sp_Lrow (K : PySem.W.Frag) : Sp := fun vs H Q _ => ∃ (a : Addr) (ns : List Int), vs = [.ref a] ∧ SqL K H a (ns.map V.int) ∧ ns.length ≤ 63 ∧
  ∀ H' p rs, Same H H' → H p = none → Row rs → gaps rs = true → rs.length ≤ 315 → H' p = some (.lst (rs.map V.int)) → Q (.ref p) H'
theorem ok_Lrow (T : Txt K mg) : FnOk P w K mg base CX0 2 T.a_Lrow T.d_Lrow p_Lrow (sp_Lrow K) := by
  refine T.F_Lrow.ok sc_Lrow (fun vs H Q E h => ?_) (fun cdv A outer s H vs Q E hr h => ?_)
  · obtain ⟨_, _, rfl, _⟩ := h
    rfl
  · obtain ⟨a, ns, rfl, hS, hl, q⟩ := h
    refine ⟨_, pss_cons (ps_set (i := 1) sc_Lrow.nd rfl (.inl rfl) (pe_lst pa_nil))
      (pss_cons (ps_for PassesOwn.never rfl (pi_enum (by rfl) T.z_enumerate (pa_cons (pv 0) pa_nil)) (pg_tup rfl (pgs_cons (pg_name (i := 2) sc_Lrow.nd rfl (.inl rfl)) (pgs_cons (pg_name (i := 3) sc_Lrow.nd rfl (.inl rfl)) pgs_nil)))
        (pss_cons (ps_set (i := 4) sc_Lrow.nd rfl (.inl rfl) (pe_call (ok_Lmixed T) hr (by rfl) T.g_Lmixed T.F_Lmixed.kp T.b_Lmixed .nil pass0 (pa_cons (pv 3) (pa_cons (pe_op op_mod (pv 2) pe_int) pa_nil))))
        (pss_cons (ps_set (i := 5) sc_Lrow.nd rfl (.inl rfl) (pe_op op_add pe_int (pe_op op_mul (pe_op op_mod (pv 4) pe_int) (pe_op op_mod (pe_op op_fdiv (pv 4) pe_int) pe_int))))
        (pss_one (ps_set (i := 1) sc_Lrow.nd rfl (.inl rfl) (pe_op op_cat (pe_op op_cat (pv 1) (pe_op op_rep (pe_lst (pa_cons pe_int pa_nil)) (pv 5)))
          (pe_lst (pa_cons (pe_op op_sub pe_int (pe_op op_mul pe_int (pe_op op_mod (pe_op op_fdiv (pv 4) pe_int) pe_int))) pa_nil))))))))
      (pss_one (ps_ret (pe_slice sl_list (pv 1) (po_some (pe_op op_mod (pe_call (ok_Lcell_at T) hr (by rfl) T.g_Lcell_at T.F_Lcell_at.kp T.b_Lcell_at .nil pass0 (pa_cons (pv 0) (pa_cons pe_int pa_nil))) pe_int)) po_none)))), ?_⟩
    have lim : (1000 : Nat) ≤ sizeLine := by decide
    refine ⟨Nat.zero_le _, fun o no => ?_⟩
    have s1 : Same H (upd H o (.lst [])) := same_upd no
    refine ⟨.ref a, rfl, a, ns.map V.int, rfl, s1.seq hS, ?_⟩
    refine for_enum (xs := ns.map V.int) (fun i σ H1 => ∃ (rs : List Int) (o : Addr), (∀ r ∈ rs, -1 ≤ r ∧ r ≤ 1) ∧ rs.getLast? ≠ some 0 ∧ gaps rs = true ∧ rs.length ≤ 5 * i ∧ Same H H1 ∧ H1 o = some (.lst (rs.map V.int)) ∧ ∃ y2 y3 y4 y5, σ = [some (.ref a), some (.ref o), y2, y3, y4, y5])
      ⟨[], o, (fun _ hr => nomatch hr), (fun z => nomatch z), rfl, Nat.zero_le _, s1, upd_same, _, _, _, _, rfl⟩ (fun i σ H1 e => ?_) (fun i x t σ H1 hx e nt => ?_) (fun σ H1 e => ?_)
    · obtain ⟨_, _, _, _, _, _, s2, _⟩ := e
      exact s2.seq hS
    · obtain ⟨rs, o, hb, hz, hg, hi, s2, eo, y2, y3, y4, y5, rfl⟩ := e
      have hlt : i < ns.length := by
        have := (List.getElem?_eq_some_iff.mp hx).1
        rwa [List.length_map] at this
      have ex : x = .int ns[i] := by
        rw [List.getElem?_map, List.getElem?_eq_getElem hlt] at hx
        exact (Option.some.inj hx).symm
      subst ex
      have sT : Same H1 (upd H1 t (.tup [.int ((i : Nat) : Int), .int ns[i]])) := same_upd nt
      have eo1 := sT _ _ eo
      refine ⟨t, _, rfl, SqT.of upd_same, rfl, _, _, rfl, _, _, rfl, rfl, ?_⟩
      generalize upd H1 t (.tup [.int ((i : Nat) : Int), .int ns[i]]) = H2 at sT eo1
      have s3 := s2.trans sT
      refine ⟨.int ns[i], rfl, .int i, rfl, _, _, rfl, rfl, (by show (0 : Int) < 64; decide), ns[i], (i : Int) % 64, rfl, Int.emod_nonneg _ (by decide), by omega, ?_⟩
      obtain ⟨m0, m1⟩ := mixd_b ns[i] ((i : Int) % 64)
      generalize mixd ns[i] ((i : Int) % 64) = M at m0 m1
      refine ⟨.int M, rfl, _, _, rfl, rfl, (by show (0 : Int) < 4; decide), .int M, rfl, _, _, rfl, rfl, ⟨by decide, by decide⟩, _, _, rfl, rfl, (by show (0 : Int) < 2; decide), _, _, rfl, rfl, .inl (by show -(2 ^ 64 : Int) < M % 4 ∧ M % 4 < 2 ^ 64; omega), _, _, rfl, rfl, ?_⟩
      have g1 : 1 ≤ 1 + M % 4 * (M / 4 % 2) ∧ 1 + M % 4 * (M / 4 % 2) ≤ 4 := by
        have h2 : M / 4 % 2 = 0 ∨ M / 4 % 2 = 1 := by omega
        rcases h2 with h | h <;> rw [h] <;> omega
      refine ⟨.ref o, rfl, small_ok (by simp), fun l1 n1 => ?_⟩
      have u1 : Same H2 (upd H2 l1 (.lst [.int 0])) := same_upd n1
      have k1 : (upd H2 l1 (.lst [.int 0])) l1 = some (.lst [.int 0]) := upd_same
      have eo2 := u1 _ _ eo1
      have s4 := s3.trans u1
      generalize upd H2 l1 (.lst [.int 0]) = H3 at u1 k1 eo2 s4
      refine ⟨.int (1 + M % 4 * (M / 4 % 2)), rfl, l1, _, [.int 0], rfl, rfl, k1, by omega, by omega, ?_, fun l2 n2 => ?_⟩
      · show 1 * (1 + M % 4 * (M / 4 % 2)).toNat ≤ sizeLine
        omega
      rw [rep_zero]
      have hgn : 1 ≤ (1 + M % 4 * (M / 4 % 2)).toNat ∧ (1 + M % 4 * (M / 4 % 2)).toNat ≤ 4 := by omega
      generalize (1 + M % 4 * (M / 4 % 2)).toNat = g at hgn n2
      have u2 : Same H3 (upd H3 l2 (.lst ((List.replicate g (0 : Int)).map V.int))) := same_upd n2
      have k2 : (upd H3 l2 (.lst ((List.replicate g (0 : Int)).map V.int))) l2 = some (.lst ((List.replicate g (0 : Int)).map V.int)) := upd_same
      have eo3 := u2 _ _ eo2
      have s5 := s4.trans u2
      generalize upd H3 l2 (.lst ((List.replicate g (0 : Int)).map V.int)) = H4 at u2 k2 eo3 s5
      refine ⟨o, l2, _, _, rfl, rfl, eo3, k2, ?_, fun l3 n3 => ?_⟩
      · rw [List.length_map, List.length_map, List.length_replicate]
        omega
      rw [← List.map_append]
      have u3 : Same H4 (upd H4 l3 (.lst ((rs ++ List.replicate g (0 : Int)).map V.int))) := same_upd n3
      have k3 : (upd H4 l3 (.lst ((rs ++ List.replicate g (0 : Int)).map V.int))) l3 = some (.lst ((rs ++ List.replicate g (0 : Int)).map V.int)) := upd_same
      have s6 := s5.trans u3
      generalize upd H4 l3 (.lst ((rs ++ List.replicate g (0 : Int)).map V.int)) = H5 at u3 k3 s6
      refine ⟨.int M, rfl, _, _, rfl, rfl, ⟨by decide, by decide⟩, _, _, rfl, rfl, (by show (0 : Int) < 2; decide), _, _, rfl, rfl, .inl (by show -(2 ^ 64 : Int) < 2 ∧ (2 : Int) < 2 ^ 64; decide), _, _, rfl, rfl, small_ok (by simp), fun l4 n4 => ?_⟩
      have hf : 1 - 2 * (M / 8 % 2) = 1 ∨ 1 - 2 * (M / 8 % 2) = -1 := by omega
      have u4 : Same H5 (upd H5 l4 (.lst [.int (1 - 2 * (M / 8 % 2))])) := same_upd n4
      refine ⟨l3, l4, _, _, rfl, rfl, u4 _ _ k3, upd_same, ?_, fun l5 n5 => ?_⟩
      · rw [List.length_map, List.length_append, List.length_replicate]
        show rs.length + g + 1 ≤ sizeLine
        omega
      have u5 := same_upd (o := .lst ((rs ++ List.replicate g (0 : Int)).map V.int ++ [V.int (1 - 2 * (M / 8 % 2))])) n5
      refine ⟨rs ++ List.replicate g (0 : Int) ++ [1 - 2 * (M / 8 % 2)], l5, fun r hr => ?_, ?_, ?_, ?_, s6.trans (u4.trans u5), ?_, _, _, _, _, rfl⟩
      · rcases List.mem_append.mp hr with h | h
        · rcases List.mem_append.mp h with h | h
          · exact hb r h
          · rw [(List.mem_replicate.mp h).2]
            decide
        · rw [List.mem_singleton.mp h]
          omega
      · rw [List.getLast?_append]
        simp
        omega
      · obtain ⟨k, rfl⟩ : ∃ k, g = k + 1 := ⟨g - 1, by omega⟩
        rw [List.append_assoc, List.replicate_succ, List.cons_append]
        refine gaps_mid rs hg ?_
        exact gaps_cons (.inl rfl) (gaps_zeros k rfl)
      · rw [List.length_append, List.length_append, List.length_replicate]
        show rs.length + g + 1 ≤ 5 * (i + 1)
        omega
      · rw [upd_same, List.map_append (l₁ := rs ++ List.replicate g 0)]
        rfl
    · obtain ⟨rs, o, hb, hz, hg, hi, s2, eo, y2, y3, y4, y5, rfl⟩ := e
      rw [List.length_map] at hi
      have c0 := Int.emod_nonneg (cell ns 0) (show (2 : Int) ≠ 0 by decide)
      have c1 := Int.emod_lt_of_pos (cell ns 0) (show (0 : Int) < 2 by decide)
      have cc : cell ns 0 % 2 = (((cell ns 0 % 2).toNat : Nat) : Int) := by omega
      refine ⟨.ref o, rfl, .ref a, rfl, a, ns, 0, rfl, s2.seq hS, _, _, rfl, rfl, (by show (0 : Int) < 2; decide), cell ns 0 % 2, rfl, o, rs.map V.int, rfl, SqL.of eo, fun p np => ?_⟩
      rw [cc, cut_from] at *
      have up := same_upd (o := .lst ((rs.drop (cell ns 0 % 2).toNat).map V.int)) np
      have hk : (cell ns 0 % 2).toNat = 0 ∨ (cell ns 0 % 2).toNat = 1 := by omega
      have rr : Row (rs.drop (cell ns 0 % 2).toNat) ∧ gaps (rs.drop (cell ns 0 % 2).toNat) = true := by
        rcases hk with h | h <;> rw [h]
        · exact ⟨⟨hb, hz⟩, hg⟩
        · refine ⟨row_drop1 hb hz, ?_⟩
          cases rs with
          | nil => rfl
          | cons x t => exact gaps_tail hg
      refine q _ p _ (s2.trans up) ?_ rr.1 rr.2 ?_ upd_same
      · cases e : H p with
        | none => rfl
        | some u =>
          have := s2 _ _ e
          rw [np] at this
          exact nomatch this
      · rw [List.length_drop]
        omega
/-! ### the law's bent -/
/-- the places of the figures other than 0 -/
def idx (ns : List Int) (i : Nat) : List Int := ((List.range i).filter fun k => !decide (ns.getD k 0 = 0)).map fun k : Nat => (k : Int)
theorem idx_len (ns : List Int) (i : Nat) : (idx ns i).length ≤ i := by
  unfold idx
  rw [List.length_map]
  have := List.length_filter_le (fun k => !decide (ns.getD k 0 = 0)) (List.range i)
  rwa [List.length_range] at this
theorem idx_yes {ns : List Int} {i : Nat} (h : ns.getD i 0 ≠ 0) : idx ns (i + 1) = idx ns i ++ [(i : Int)] := by
  unfold idx
  have h' : (!decide (ns.getD i 0 = 0)) = true := by rw [decide_eq_false h]; rfl
  rw [List.range_succ, List.filter_append, List.filter_cons_of_pos (p := fun k => !decide (ns.getD k 0 = 0)) h', List.map_append]
  rfl
theorem idx_no {ns : List Int} {i : Nat} (h : ns.getD i 0 = 0) : idx ns (i + 1) = idx ns i := by
  unfold idx
  have h' : ¬ (!decide (ns.getD i 0 = 0)) = true := by rw [decide_eq_true h]; exact Bool.false_ne_true
  rw [List.range_succ, List.filter_append, List.filter_cons_of_neg (p := fun k => !decide (ns.getD k 0 = 0)) h']
  simp
theorem idx_mem {ns : List Int} {i : Nat} {z : Int} (h : z ∈ idx ns i) : ∃ k : Nat, z = (k : Int) ∧ k < i ∧ ns.getD k 0 ≠ 0 := by
  obtain ⟨k, hk, e⟩ := List.mem_map.mp h
  obtain ⟨h1, h2⟩ := List.mem_filter.mp hk
  exact ⟨k, e.symm, List.mem_range.mp h1, by simpa using h2⟩
theorem idx_nil {ns : List Int} (r : Row ns) (h : idx ns ns.length = []) : ns = [] := by
  cases hn : ns with
  | nil => rfl
  | cons x t =>
    have ne : ns ≠ [] := by rw [hn]; simp
    have hl : 0 < ns.length := List.length_pos_iff.mpr ne
    have hlast : ns.getD (ns.length - 1) 0 ≠ 0 := fun e => by
      apply r.2
      rw [List.getLast?_eq_getElem?]
      have hh : ns.length - 1 < ns.length := by omega
      rw [List.getElem?_eq_getElem hh]
      simp [List.getD, hh] at e
      rw [e]
    have : (((ns.length - 1 : Nat) : Int)) ∈ idx ns ns.length := List.mem_map.mpr ⟨ns.length - 1, List.mem_filter.mpr ⟨List.mem_range.mpr (by omega), by rw [decide_eq_false hlast]; rfl⟩, rfl⟩
    rw [h] at this
    exact nomatch this
def sp_Lbent (K : PySem.W.Frag) : Sp := fun vs H Q _ => ∃ (a : Addr) (ns : List Int) (c : Int), vs = [.ref a, .int c] ∧ SqL K H a (ns.map V.int) ∧ Row ns ∧ gaps ns = true ∧ ns.length ≤ 315 ∧ 0 ≤ c ∧
  ∀ H' p rs, Same H H' → Row rs → gaps rs = true → val rs ≠ val ns → rs.length ≤ 320 → SqL K H' p (rs.map V.int) → Q (.ref p) H'
theorem ok_Lbent (T : Txt K mg) : FnOk P w K mg base CX0 1 T.a_Lbent T.d_Lbent p_Lbent (sp_Lbent K) := by
  refine T.F_Lbent.ok sc_Lbent (fun vs H Q E h => ?_) (fun cdv A outer s H vs Q E hr h => ?_)
  · obtain ⟨_, _, _, rfl, _⟩ := h
    rfl
  · obtain ⟨a, ns, c, rfl, hS, hrow, hgap, hl, c0, q⟩ := h
    refine ⟨_, pss_cons (ps_setLc (i := 2) (own := [("_law_k", 7)]) (g := gName 7) (by rfl) sc_Lbent.nd rfl rfl (sw_true rfl rfl rfl (by decide +kernel)) (pi_range1 (by rfl) T.z_range (pa_cons (pe_callB call_len_seq (by rfl) T.z_len PySem.boot_len (pa_cons (pv 0) pa_nil)) pa_nil))
        (blkOk_by (N := ["_law_row_here", "_law_cell", "_law_some", "_law_at", "_law_rest", "_law_bent_here", "_law_found", "_law_k"]) (own := [("_law_k", 7)]) (sc := defScope t_Lbent) (by decide +kernel))
        (fun _ _ _ _ _ => pg_name (i := 7) sc_Lbent.nd rfl (Or.inl rfl)) (fun _ _ _ _ _ => pts_one (pt_cmpR op_ne (pe_ix (r := rIxL K) ix_list (pv 0) (pv 7) (fun _ _ => rfl)) pe_int (nomark _))) (fun _ _ _ _ _ => pv 7))
      (pss_cons (ps_if (pt_cmpR (op_eqD hr.units) (pv 2) (pe_lst pa_nil) (nomark _)) (pss_one (ps_ret (pe_lst (pa_cons pe_int (pa_cons pe_int (pa_cons pe_int pa_nil)))))) pss_nil)
      (pss_cons (ps_set (i := 3) sc_Lbent.nd rfl (.inl rfl) (pe_ix ix_list (pv 2) (pe_op op_mod (pv 1) (pe_callB call_len_seq (by rfl) T.z_len PySem.boot_len (pa_cons (pv 2) pa_nil))) (fun _ _ => rfl)))
      (pss_cons (ps_set (i := 4) sc_Lbent.nd rfl (.inl rfl) (pe_slice sl_list (pv 0) (po_some (pe_op op_add (pv 3) pe_int)) po_none))
      (pss_cons (ps_set (i := 5) sc_Lbent.nd rfl (.inl rfl) (pe_lst (pa_cons (pe_op op_cat (pe_lst (pa_cons (pe_op op_sub pe_int (pe_ix ix_list (pv 0) (pv 3) (fun _ _ => rfl))) pa_nil)) (pv 4))
        (pa_cons (pe_op op_cat (pe_lst (pa_cons pe_int pa_nil)) (pv 4))
        (pa_cons (pe_op op_cat (pe_lst (pa_cons pe_int (pa_cons (pe_ix ix_list (pv 0) (pv 3) (fun _ _ => rfl)) pa_nil))) (pv 4)) pa_nil)))))
      (pss_cons (ps_set (i := 6) sc_Lbent.nd rfl (.inl rfl) (pe_op op_cat (pe_slice sl_list (pv 0) po_none (po_some (pv 3))) (pe_ix ix_list (pv 5) (pe_op op_mod (pe_op op_fdiv (pv 1) pe_int) pe_int) (fun _ _ => rfl))))
      (pss_cons (ps_while PassesOwn.never (pt_cmpR (op_eqD hr.units) (pe_slice sl_list (pv 6) (po_some (pe_un un_neg pe_int)) po_none) (pe_lst (pa_cons pe_int pa_nil)) (nomark _))
        (pss_one (ps_set (i := 6) sc_Lbent.nd rfl (.inl rfl) (pe_slice sl_list (pv 6) po_none (po_some (pe_un un_neg pe_int))))))
      (pss_one (ps_ret (pv 6))))))))), ?_⟩
    have lim : (1000 : Nat) ≤ sizeLine := by decide
    have lm : (ns.map V.int).length = ns.length := List.length_map ..
    refine ⟨.ref a, rfl, a, ns.map V.int, rfl, .inl hS, ((ns.map V.int).length : Int), rfl, by rw [lm]; omega, by rw [lm]; omega, fun D nD => ?_⟩
    rw [lm]
    have sD : ∀ ys, Same H (upd H D (.lst ys)) := fun ys => same_upd nD
    refine lc_range (lo := 0) (n := ns.length) (fun i H1 => H1 = upd H D (.lst ((idx ns i).map V.int))) rfl (fun i H1 hi e => ?_) (fun H1 e => ?_)
    · subst e
      have g : (ns.map V.int)[i]? = some (.int ns[i]) := by
        rw [List.getElem?_map, List.getElem?_eq_getElem hi]
        rfl
      have gi : atI (ns.map V.int) (0 + (i : Int)) = some (.int ns[i]) := by
        rw [Int.zero_add]
        exact atI_nat g
      have dn : ns.getD i 0 = ns[i] := by simp [List.getD, hi]
      refine ⟨rfl, .ref a, rfl, .int (0 + i), rfl, a, _, _, .int ns[i], rfl, rfl, (sD _).seq hS, gi, rfl, _, rfl, ?_⟩
      by_cases h0 : ns[i] = 0
      · rw [decide_eq_true (show V.int ns[i] = V.int 0 by rw [h0])]
        refine iteF ?_
        rw [idx_no (by rw [dn, h0])]
      · rw [decide_eq_false (show ¬ V.int ns[i] = V.int 0 from fun z => h0 (V.int.inj z))]
        refine iteT ⟨.int (0 + i), rfl, _, upd_same, ?_, ?_⟩
        · rw [List.length_map]
          have := idx_len ns i
          omega
        · rw [upd_upd, idx_yes (by rw [dn]; exact h0), List.map_append, Int.zero_add]
          rfl
    · subst e
      have s1 := sD ((idx ns ns.length).map V.int)
      have eI : SqL K (upd H D (.lst ((idx ns ns.length).map V.int))) D ((idx ns ns.length).map V.int) := SqL.of upd_same
      have hA1 := s1.seq hS
      have mI : ∀ z ∈ idx ns ns.length, ∃ k : Nat, z = (k : Int) ∧ k < ns.length ∧ ns.getD k 0 ≠ 0 := fun z hz => idx_mem hz
      have nI := fun h => idx_nil hrow h
      have lI := idx_len ns ns.length
      generalize hI : idx ns ns.length = I at s1 eI hA1 mI nI lI
      generalize upd H D (.lst (I.map V.int)) = H1 at s1 eI hA1
      refine ⟨.ref D, rfl, Nat.zero_le _, fun l nl => ?_⟩
      have s2 : Same H1 (upd H1 l (.lst [])) := same_upd nl
      refine ⟨dI I, dI [], dp_ints (s2.seq eI), dp_ints (SqL.of upd_same), dI_shaped _, dI_shaped _, _, rfl, ?_⟩
      rw [dI_eqv]
      generalize upd H1 l (.lst []) = H2 at s2
      have t2 := s1.trans s2
      have eI2 := s2.seq eI
      have hA2 := s2.seq hA1
      by_cases hI0 : I = []
      · rw [decide_eq_true hI0]
        have hns := nI hI0
        refine iteT ⟨small_ok (by simp), fun p np => ?_⟩
        have u := same_upd (o := .lst [V.int 0, .int 0, .int 1]) np
        refine q _ p [0, 0, 1] (t2.trans u) ⟨fun n hn => ?_, by simp⟩ rfl ?_ (by simp) (SqL.of upd_same)
        · simp at hn
          omega
        · rw [hns]
          decide
      · rw [decide_eq_false hI0]
        refine iteF ?_
        have lI0 : 0 < I.length := List.length_pos_iff.mpr hI0
        have lmI : (I.map V.int).length = I.length := List.length_map ..
        have j0 := Int.emod_nonneg c (show (I.length : Int) ≠ 0 by omega)
        have j1 := Int.emod_lt_of_pos c (show (0 : Int) < (I.length : Int) by omega)
        have hj : (c % (I.length : Int)).toNat < I.length := by omega
        have gI : (I.map V.int)[(c % (I.length : Int)).toNat]? = some (.int I[(c % (I.length : Int)).toNat]) := by
          rw [List.getElem?_map, List.getElem?_eq_getElem hj]
          rfl
        have aI : atI (I.map V.int) (c % (I.length : Int)) = some (.int I[(c % (I.length : Int)).toNat]) := by
          have e : c % (I.length : Int) = (((c % (I.length : Int)).toNat : Nat) : Int) := by omega
          have := atI_nat gI
          rwa [← e] at this
        obtain ⟨k, hk, hkl, hkn⟩ := mI _ (List.getElem_mem hj)
        rw [hk] at aI
        refine ⟨.ref D, rfl, .int c, rfl, .ref D, rfl, D, I.map V.int, rfl, .inl eI2, _, _, rfl, rfl, (by show (0 : Int) < ((I.map V.int).length : Int); rw [lmI]; omega), D, _, c % ((I.map V.int).length : Int), .int k, rfl, rfl, eI2, (by rw [lmI]; exact aI), ?_⟩
        -- the figure, what stands ahead and behind
        have gk : (ns.map V.int)[k]? = some (.int ns[k]) := by
          rw [List.getElem?_map, List.getElem?_eq_getElem hkl]
          rfl
        have ak : atI (ns.map V.int) (k : Int) = some (.int ns[k]) := atI_nat gk
        have dn : ns.getD k 0 = ns[k] := by simp [List.getD, hkl]
        rw [dn] at hkn
        have hfig := hrow.1 ns[k] (List.getElem_mem hkl)
        have hr1 : ns[k] = 1 ∨ ns[k] = -1 := by omega
        have split : ns = ns.take k ++ ns[k] :: ns.drop (k + 1) := by
          rw [List.getElem_cons_drop, List.take_append_drop]
        have hB : ∀ n ∈ ns.drop (k + 1), -1 ≤ n ∧ n ≤ 1 := fun n hn => hrow.1 n (List.mem_of_mem_drop hn)
        have hA' : ∀ n ∈ ns.take k, -1 ≤ n ∧ n ≤ 1 := fun n hn => hrow.1 n (List.mem_of_mem_take hn)
        have lB : (ns.drop (k + 1)).length ≤ 315 := by
          rw [List.length_drop]
          omega
        have lA : (ns.take k).length + (ns.drop (k + 1)).length ≤ 315 := by
          rw [List.length_take, List.length_drop]
          omega
        refine ⟨.ref a, rfl, .int k, rfl, _, _, rfl, rfl, (k : Int) + 1, rfl, a, ns.map V.int, rfl, hA2, fun m nm => ?_⟩
        have ec : cutV (ns.map V.int) (some ((k : Int) + 1)) none = (ns.drop (k + 1)).map V.int := by
          have e : (k : Int) + 1 = ((k + 1 : Nat) : Int) := by omega
          rw [e, cut_from]
        rw [ec]
        generalize hBB : ns.drop (k + 1) = B at split hB lB lA
        generalize hAA : ns.take k = A at split hA' lA
        generalize hrr : ns[k] = r at hkn hfig hr1 split ak
        have s3 : Same H2 (upd H2 m (.lst (B.map V.int))) := same_upd nm
        have eB : (upd H2 m (.lst (B.map V.int))) m = some (.lst (B.map V.int)) := upd_same
        generalize upd H2 m (.lst (B.map V.int)) = H3 at s3 eB
        have t3 := t2.trans s3
        have hA3 := s3.seq hA2
        have lmB : (B.map V.int).length = B.length := List.length_map ..
        -- the three
        refine ⟨.ref a, rfl, .int k, rfl, a, _, (k : Int), .int r, rfl, rfl, hA3, ak, _, _, rfl, rfl, small_ok (by simp), fun p1 n1 => ?_⟩
        have u1 : Same H3 (upd H3 p1 (.lst [.int (0 - r)])) := same_upd n1
        have k1 : (upd H3 p1 (.lst [.int (0 - r)])) p1 = some (.lst [.int (0 - r)]) := upd_same
        generalize upd H3 p1 (.lst [.int (0 - r)]) = H4 at u1 k1
        have t4 := t3.trans u1
        have eB4 := u1 _ _ eB
        refine ⟨.ref m, rfl, p1, m, _, _, rfl, rfl, k1, eB4, (by rw [lmB]; show 1 + B.length ≤ sizeLine; omega), fun p2 n2 => ?_⟩
        have u2 : Same H4 (upd H4 p2 (.lst ([.int (0 - r)] ++ B.map V.int))) := same_upd n2
        have k2 : (upd H4 p2 (.lst ([.int (0 - r)] ++ B.map V.int))) p2 = some (.lst (((0 - r) :: B).map V.int)) := upd_same
        generalize upd H4 p2 (.lst ([.int (0 - r)] ++ B.map V.int)) = H5 at u2 k2
        have t5 := t4.trans u2
        have eB5 := u2 _ _ eB4
        refine ⟨small_ok (by simp), fun p3 n3 => ?_⟩
        have u3 : Same H5 (upd H5 p3 (.lst [.int 0])) := same_upd n3
        have k3 : (upd H5 p3 (.lst [.int 0])) p3 = some (.lst [.int 0]) := upd_same
        generalize upd H5 p3 (.lst [.int 0]) = H6 at u3 k3
        have t6 := t5.trans u3
        have eB6 := u3 _ _ eB5
        have k26 := u3 _ _ k2
        refine ⟨.ref m, rfl, p3, m, _, _, rfl, rfl, k3, eB6, (by rw [lmB]; show 1 + B.length ≤ sizeLine; omega), fun p4 n4 => ?_⟩
        have u4 : Same H6 (upd H6 p4 (.lst ([.int 0] ++ B.map V.int))) := same_upd n4
        have k4 : (upd H6 p4 (.lst ([.int 0] ++ B.map V.int))) p4 = some (.lst ((0 :: B).map V.int)) := upd_same
        generalize upd H6 p4 (.lst ([.int 0] ++ B.map V.int)) = H7 at u4 k4
        have t7 := t6.trans u4
        have eB7 := u4 _ _ eB6
        have k27 := u4 _ _ k26
        have hA7 := t7.seq hS
        refine ⟨.ref a, rfl, .int k, rfl, a, _, (k : Int), .int r, rfl, rfl, hA7, ak, small_ok (by simp), fun p5 n5 => ?_⟩
        have u5 : Same H7 (upd H7 p5 (.lst [.int 0, .int r])) := same_upd n5
        have k5 : (upd H7 p5 (.lst [.int 0, .int r])) p5 = some (.lst [.int 0, .int r]) := upd_same
        generalize upd H7 p5 (.lst [.int 0, .int r]) = H8 at u5 k5
        have t8 := t7.trans u5
        have eB8 := u5 _ _ eB7
        have k28 := u5 _ _ k27
        have k48 := u5 _ _ k4
        refine ⟨.ref m, rfl, p5, m, _, _, rfl, rfl, k5, eB8, (by rw [lmB]; show 2 + B.length ≤ sizeLine; omega), fun p6 n6 => ?_⟩
        have u6 : Same H8 (upd H8 p6 (.lst ([.int 0, .int r] ++ B.map V.int))) := same_upd n6
        have k6 : (upd H8 p6 (.lst ([.int 0, .int r] ++ B.map V.int))) p6 = some (.lst ((0 :: r :: B).map V.int)) := upd_same
        generalize upd H8 p6 (.lst ([.int 0, .int r] ++ B.map V.int)) = H9 at u6 k6
        have t9 := t8.trans u6
        have k29 := u6 _ _ k28
        have k49 := u6 _ _ k48
        refine ⟨small_ok (by simp), fun p7 n7 => ?_⟩
        have u7 : Same H9 (upd H9 p7 (.lst [.ref p2, .ref p4, .ref p6])) := same_upd n7
        have k7 : SqL K (upd H9 p7 (.lst [.ref p2, .ref p4, .ref p6])) p7 [.ref p2, .ref p4, .ref p6] := SqL.of upd_same
        generalize upd H9 p7 (.lst [.ref p2, .ref p4, .ref p6]) = H10 at u7 k7
        have t10 := t9.trans u7
        have hA10 := t10.seq hS
        have pick : ∃ (b : Addr) (L : List Int), atI [V.ref p2, .ref p4, .ref p6] (c / 1000 % 3) = some (.ref b) ∧ H10 b = some (.lst (L.map V.int)) ∧ (∀ n ∈ A ++ L, -1 ≤ n ∧ n ≤ 1) ∧ gaps (A ++ L) = true ∧ val (A ++ L) ≠ val ns ∧ L.length ≤ B.length + 2 := by
          have fig : ∀ x : List Int, (∀ n ∈ x, -1 ≤ n ∧ n ≤ 1) → ∀ n ∈ A ++ (x ++ B), -1 ≤ n ∧ n ≤ 1 := fun x hx n hn => by
            rcases List.mem_append.mp hn with h | h
            · exact hA' n h
            · rcases List.mem_append.mp h with h | h
              · exact hx n h
              · exact hB n h
          have hg : gaps (A ++ r :: B) = true := by rw [← split]; exact hgap
          have f0 := Int.emod_nonneg (c / 1000) (show (3 : Int) ≠ 0 by decide)
          have f1 := Int.emod_lt_of_pos (c / 1000) (show (0 : Int) < 3 by decide)
          have cc : c / 1000 % 3 = ((0 : Nat) : Int) ∨ c / 1000 % 3 = ((1 : Nat) : Int) ∨ c / 1000 % 3 = ((2 : Nat) : Int) := by omega
          rcases cc with e | e | e <;> rw [e]
          · refine ⟨p2, (0 - r) :: B, atI_nat rfl, u7 _ _ k29, fig [0 - r] (fun n hn => ?_), gaps_swap hg hkn, ?_, by simp⟩
            · rw [List.mem_singleton.mp hn]
              omega
            · rw [split]
              exact ne_neg hr1
          · refine ⟨p4, 0 :: B, atI_nat rfl, u7 _ _ k49, fig [0] (fun n hn => ?_), gaps_swap hg hkn, ?_, by simp⟩
            · rw [List.mem_singleton.mp hn]
              decide
            · rw [split]
              exact ne_out hr1
          · refine ⟨p6, 0 :: r :: B, atI_nat rfl, u7 _ _ k6, fig [0, r] (fun n hn => ?_), gaps_move hg hkn, ?_, by simp⟩
            · simp at hn
              omega
            · rw [split]
              exact ne_move hr1
        obtain ⟨b, L, hat, hb, lfig, lgap, lval, llen⟩ := pick
        refine ⟨.ref a, rfl, .int k, rfl, (k : Int), rfl, a, ns.map V.int, rfl, hA10, fun p8 n8 => ?_⟩
        rw [cut_to, hAA]
        have u8 : Same H10 (upd H10 p8 (.lst (A.map V.int))) := same_upd n8
        have k8 : (upd H10 p8 (.lst (A.map V.int))) p8 = some (.lst (A.map V.int)) := upd_same
        generalize upd H10 p8 (.lst (A.map V.int)) = H11 at u8 k8
        have t11 := t10.trans u8
        have lmA : (A.map V.int).length = A.length := List.length_map ..
        have lmL : (L.map V.int).length = L.length := List.length_map ..
        refine ⟨.ref p7, rfl, .int c, rfl, _, _, rfl, rfl, ⟨by decide, by decide⟩, _, _, rfl, rfl, (by show (0 : Int) < 3; decide), p7, _, c / 1000 % 3, .ref b, rfl, rfl, u8.seq k7, hat, p8, b, _, _, rfl, rfl, k8, u8 _ _ hb, (by rw [lmA, lmL]; omega), fun p9 n9 => ?_⟩
        rw [← List.map_append]
        have u9 : Same H11 (upd H11 p9 (.lst ((A ++ L).map V.int))) := same_upd n9
        have k9 : SqL K (upd H11 p9 (.lst ((A ++ L).map V.int))) p9 ((A ++ L).map V.int) := SqL.of upd_same
        generalize upd H11 p9 (.lst ((A ++ L).map V.int)) = H12 at u9 k9
        have t12 := t11.trans u9
        have lall : (A ++ L).length ≤ 320 := by
          rw [List.length_append]
          omega
        generalize A ++ L = S at k9 lfig lgap lval lall
        -- the 0 at the end
        refine ⟨fun m σ H13 => ∃ (l : List Int) (o : Addr), l.length = m ∧ Same H H13 ∧ SqL K H13 o (l.map V.int) ∧ (∀ n ∈ l, -1 ≤ n ∧ n ≤ 1) ∧ gaps l = true ∧ val l ≠ val ns ∧ l.length ≤ 320 ∧ ∃ y2 y3 y4 y5 y7, σ = [some (.ref a), some (.int c), y2, y3, y4, y5, some (.ref o), y7],
          ⟨_, S, p9, rfl, t12, k9, lfig, lgap, lval, lall, _, _, _, _, _, rfl⟩, fun m σ H13 hW => ?_⟩
        obtain ⟨l, o, hm, sl, ko, fl, gl, vl, ll, y2, y3, y4, y5, y7, rfl⟩ := hW
        refine ⟨.ref o, rfl, 1, rfl, -1, rfl, o, l.map V.int, rfl, ko, fun x1 z1 => ?_⟩
        rw [cutLast]
        have v1 : Same H13 (upd H13 x1 (.lst ((l.drop (l.length - 1)).map V.int))) := same_upd z1
        have e1 : SqL K (upd H13 x1 (.lst ((l.drop (l.length - 1)).map V.int))) x1 ((l.drop (l.length - 1)).map V.int) := SqL.of upd_same
        generalize upd H13 x1 (.lst ((l.drop (l.length - 1)).map V.int)) = H14 at v1 e1
        refine ⟨small_ok (by simp), fun x2 z2 => ?_⟩
        have v2 : Same H14 (upd H14 x2 (.lst [.int 0])) := same_upd z2
        refine ⟨dI (l.drop (l.length - 1)), dI [0], dp_ints (v2.seq e1), dp_ints (SqL.of upd_same), dI_shaped _, dI_shaped _, _, rfl, ?_⟩
        rw [dI_eqv]
        generalize upd H14 x2 (.lst [.int 0]) = H15 at v2
        have w2 := v1.trans v2
        by_cases hz : l.drop (l.length - 1) = [0]
        · rw [decide_eq_true hz]
          have hlast := drop_last_one.mp hz
          have hs := last_split hlast
          have hne : l ≠ [] := fun e => by rw [e] at hlast; exact nomatch hlast
          have hlen : l.dropLast.length < l.length := by
            rw [List.length_dropLast]
            have := List.length_pos_iff.mpr hne
            omega
          refine iteT ⟨fun σ' H' => ∃ o', Same H H' ∧ SqL K H' o' (l.dropLast.map V.int) ∧ ∃ y2 y3 y4 y5 y7, σ' = [some (.ref a), some (.int c), y2, y3, y4, y5, some (.ref o'), y7], fun σ' H' hN => ?_, ?_⟩
          · obtain ⟨o', so, ko', y2, y3, y4, y5, y7, rfl⟩ := hN
            refine ⟨l.dropLast.length, by omega, l.dropLast, o', rfl, so, ko', fun n hn => fl n ((List.dropLast_sublist l).subset hn), ?_, ?_, by omega, _, _, _, _, _, rfl⟩
            · rw [hs] at gl
              exact gaps_left _ gl
            · rw [hs, val_snoc0] at vl
              exact vl
          · refine ⟨.ref o, rfl, 1, rfl, -1, rfl, o, l.map V.int, rfl, w2.seq ko, fun x3 z3 => ?_⟩
            rw [cut_but]
            have v3 := same_upd (o := .lst (l.dropLast.map V.int)) z3
            exact ⟨x3, sl.trans (w2.trans v3), SqL.of upd_same, _, _, _, _, _, rfl⟩
        · rw [decide_eq_false hz]
          refine iteF ⟨.ref o, rfl, ?_⟩
          exact q H15 o l (sl.trans w2) ⟨fl, fun e => hz (drop_last_one.mpr e)⟩ gl vl ll (w2.seq ko)
/-! ### the law -/
def sp_law (K : PySem.W.Frag) : Sp := fun vs H Q _ => ∃ (a : Addr) (ns : List Int), vs = [.ref a] ∧ SqL K H a (ns.map V.int) ∧ ns.length ≤ 63 ∧ ∀ H', Q (.bl true) H'
theorem ok_law_at (T : Txt K mg) {f : Addr} {fd : FuncData} (F : Fun K "law" "law" t_law f fd) (b : Binds K fd p_law []) : FnOk P w K mg base CX0 6 f fd p_law (sp_law K) := by
  refine F.ok sc_law (fun vs H Q E h => ?_) (fun cdv A outer s H vs Q E hr h => ?_)
  · obtain ⟨_, _, rfl, _⟩ := h
    rfl
  · obtain ⟨a, ns, rfl, hS, hlen, q⟩ := h
    refine ⟨_, pss_cons (ps_set (i := 1) sc_law.nd rfl (.inl rfl) (pe_call (ok_Lrow T) (hr.mono (by decide)) (by rfl) T.g_Lrow T.F_Lrow.kp T.b_Lrow .nil pass0 (pa_cons (pv 0) pa_nil)))
      (pss_cons (ps_set (i := 2) sc_law.nd rfl (.inl rfl) (pe_call (ok_Lbent T) (hr.mono (by decide)) (by rfl) T.g_Lbent T.F_Lbent.kp T.b_Lbent .nil pass0 (pa_cons (pv 1)
          (pa_cons (pe_call (ok_Lmixed T) (hr.mono (by decide)) (by rfl) T.g_Lmixed T.F_Lmixed.kp T.b_Lmixed .nil pass0 (pa_cons (pe_call (ok_Lcell_at T) (hr.mono (by decide)) (by rfl) T.g_Lcell_at T.F_Lcell_at.kp T.b_Lcell_at .nil pass0 (pa_cons (pv 0) (pa_cons pe_int pa_nil))) (pa_cons pe_int pa_nil))) pa_nil))))
      (pss_cons (ps_for PassesOwn.never rfl (pi_tup (pe_tup (pa_cons (pv 1) (pa_cons (pv 2) (pa_cons (pv 1) pa_nil))))) (pg_name (i := 3) sc_law.nd rfl (.inl rfl))
        (pss_cons (ps_set (i := 4) sc_law.nd rfl (.inl rfl) (pe_callTy call_list_of (by rfl) T.z_list (by decide +kernel) (pa_cons (pv 3) pa_nil)))
        (pss_one (ps_if (PW.pt (pw_or (pt_cmpR op_isnot_bl (pe_call (ok_is_lean T) hr (by rfl) T.g_is_lean T.F_is_lean.kp T.b_is_lean .nil pass0 (pa_cons (pv 4) pa_nil)) pe_bl (nomark _))
          (pw_or (pt_cmpR op_ne (pe_call (ok_worth T) hr (by rfl) T.g_worth T.F_worth.kp T.b_worth .nil pass0 (pa_cons (pv 4) pa_nil)) (pe_call (ok_Lworth T) (hr.mono (by decide)) (by rfl) T.g_Lworth T.F_Lworth.kp T.b_Lworth .nil pass0 (pa_cons (pv 3) pa_nil)) (nomark _))
          (pw_or1 (pt_cmpR (op_neD hr.units) (pe_call (ok_lean T) (hr.mono (by decide)) (by rfl) T.g_lean T.F_lean.kp T.b_lean .nil pass0 (pa_cons (pe_call (ok_worth T) hr (by rfl) T.g_worth T.F_worth.kp T.b_worth .nil pass0 (pa_cons (pv 4) pa_nil)) pa_nil)) (pv 3) (nomark _)))))) (pss_one (ps_ret pe_bl)) pss_nil))))
      (pss_one (ps_ret (pe_and (pe_cmpR op_ne (pe_call (ok_worth T) hr (by rfl) T.g_worth T.F_worth.kp T.b_worth .nil pass0 (pa_cons (pe_callTy call_list_of (by rfl) T.z_list (by decide +kernel) (pa_cons (pv 1) pa_nil)) pa_nil))
          (pe_call (ok_worth T) hr (by rfl) T.g_worth T.F_worth.kp T.b_worth .nil pass0 (pa_cons (pe_callTy call_list_of (by rfl) T.z_list (by decide +kernel) (pa_cons (pv 2) pa_nil)) pa_nil)) (nomark _))
        (pe_one (pe_cmpR (op_eqD hr.units) (pe_call (ok_lean T) (hr.mono (by decide)) (by rfl) T.g_lean T.F_lean.kp T.b_lean .nil pass0 (pa_cons (pe_call (ok_Lworth T) (hr.mono (by decide)) (by rfl) T.g_Lworth T.F_Lworth.kp T.b_Lworth .nil pass0 (pa_cons (pv 1) pa_nil)) pa_nil)) (pv 1) (nomark _)))))))), ?_⟩
    refine ⟨.ref a, rfl, a, ns, rfl, hS, hlen, fun H1 p rs s1 np rr rg rl ep => ?_⟩
    obtain ⟨m0, m1⟩ := mixd_b (cell ns 1) 2
    refine ⟨.ref p, rfl, .ref a, rfl, a, ns, 1, rfl, s1.seq hS, cell ns 1, 2, rfl, by decide, by decide, p, rs, mixd (cell ns 1) 2, rfl, SqL.of ep, rr, rg, rl, m0, fun H2 o ts s2 tr tg tv tl eo => ?_⟩
    have kp2 : SqL K H2 p (rs.map V.int) := s2.seq (SqL.of ep)
    refine ⟨.ref p, rfl, .ref o, rfl, .ref p, rfl, small_ok (by simp), fun t nt => ?_⟩
    have s3 : Same H2 (upd H2 t (.tup [.ref p, .ref o, .ref p])) := same_upd nt
    have et : SqT K (upd H2 t (.tup [.ref p, .ref o, .ref p])) t [.ref p, .ref o, .ref p] := SqT.of upd_same
    have kp3 := s3.seq kp2
    have eo3 := s3.seq eo
    generalize upd H2 t (.tup [.ref p, .ref o, .ref p]) = H3 at et kp3 eo3
    refine ⟨t, rfl, ⟨_, et⟩, ?_⟩
    have etS : ∀ H', Same H3 H' → SqT K H' t [.ref p, .ref o, .ref p] := fun H' sm => by
      rcases et with h | h
      · rcases h with h | ⟨ob, h⟩
        · exact .inl (.inl (sm _ _ h))
        · exact .inl (.inr ⟨ob, sm _ _ h⟩)
      · exact .inr h
    refine for_tup (xs := [.ref p, .ref o, .ref p]) (fun i σ H4 => Same H3 H4 ∧ ∃ y3 y4, σ = [some (.ref a), some (.ref p), some (.ref o), y3, y4]) ⟨Same.refl _, _, _, rfl⟩ (fun i σ H4 _ e => by exact etS _ e.1) (fun i x σ H4 hx e => ?_) (fun σ H4 e => ?_)
    · obtain ⟨s4, y3, y4, rfl⟩ := e
      -- a lean row, whichever it is
      have one : ∃ (b : Addr) (ls : List Int), x = .ref b ∧ SqL K H4 b (ls.map V.int) ∧ Row ls ∧ gaps ls = true ∧ ls.length ≤ 320 := by
        have hm : x ∈ [V.ref p, .ref o, .ref p] := List.mem_of_getElem? hx
        rcases List.mem_cons.mp hm with h | hm
        · exact ⟨p, rs, h, s4.seq kp3, rr, rg, by omega⟩
        · rcases List.mem_cons.mp hm with h | hm
          · exact ⟨o, ts, h, s4.seq eo3, tr, tg, tl⟩
          · exact ⟨p, rs, List.mem_singleton.mp hm, s4.seq kp3, rr, rg, by omega⟩
      obtain ⟨b, ls, rfl, eb, lr, lg, ll⟩ := one
      refine ⟨.ref b, rfl, b, ls.map V.int, rfl, .inl eb, fun l nl => ?_⟩
      have s5 : Same H4 (upd H4 l (.lst (ls.map V.int))) := same_upd nl
      have el : RowAt K (upd H4 l (.lst (ls.map V.int))) l ls := ⟨SqL.of upd_same, lr, by omega⟩
      generalize upd H4 l (.lst (ls.map V.int)) = H5 at s5 el
      have eb5 := s5.seq eb
      refine ⟨.ref l, rfl, l, ls, rfl, el, fun H6 s6 => ?_⟩
      refine ⟨_, true, rfl, rfl, _, rfl, ?_⟩
      rw [lg]
      refine iteF ?_
      refine ⟨.ref l, rfl, l, ls, rfl, el.mono s6, fun H7 s7 => ?_⟩
      have t7 := s6.trans s7
      refine ⟨.ref b, rfl, b, ls, rfl, t7.seq eb5, lr.1, by omega, rfl, _, rfl, ?_⟩
      rw [decide_eq_true rfl]
      refine iteF ?_
      refine ⟨.ref l, rfl, l, ls, rfl, el.mono t7, fun H8 s8 => ?_⟩
      have t8 := t7.trans s8
      refine ⟨val ls, ls.length, rfl, val_abs ls lr.1, by omega, fun H9 u us s9 nu ur ug uv ul eu => ?_⟩
      have same : us = ls := lean_only us ls ur lr ug lg uv
      subst same
      have t9 := t8.trans s9
      refine ⟨.ref b, rfl, dI us, dI us, dp_ints (SqL.of eu), dp_ints (t9.seq eb5), dI_shaped _, dI_shaped _, _, rfl, ?_⟩
      rw [dI_eqv, decide_eq_true rfl]
      exact iteF ⟨s4.trans (s5.trans t9), _, _, rfl⟩
    · obtain ⟨s4, y3, y4, rfl⟩ := e
      have kp4 := s4.seq kp3
      have eo4 := s4.seq eo3
      refine ⟨.ref p, rfl, p, rs.map V.int, rfl, .inl kp4, fun l nl => ?_⟩
      have s5 : Same H4 (upd H4 l (.lst (rs.map V.int))) := same_upd nl
      have el : RowAt K (upd H4 l (.lst (rs.map V.int))) l rs := ⟨SqL.of upd_same, rr, by omega⟩
      generalize upd H4 l (.lst (rs.map V.int)) = H5 at s5 el
      refine ⟨l, rs, rfl, el, fun H6 s6 => ?_⟩
      have t6 := s5.trans s6
      refine ⟨.ref o, rfl, o, ts.map V.int, rfl, .inl (t6.seq eo4), fun l2 nl2 => ?_⟩
      have s7 : Same H6 (upd H6 l2 (.lst (ts.map V.int))) := same_upd nl2
      have el2 : RowAt K (upd H6 l2 (.lst (ts.map V.int))) l2 ts := ⟨SqL.of upd_same, tr, by omega⟩
      generalize upd H6 l2 (.lst (ts.map V.int)) = H7 at s7 el2
      refine ⟨l2, ts, rfl, el2, fun H8 s8 => ?_⟩
      have t8 := t6.trans (s7.trans s8)
      refine ⟨rfl, _, rfl, ?_⟩
      rw [decide_eq_false (show ¬ V.int (val rs) = V.int (val ts) from fun z => tv (V.int.inj z).symm)]
      refine iteT ?_
      refine ⟨.ref p, rfl, p, rs, rfl, t8.seq kp4, rr.1, by omega, val rs, rs.length, rfl, val_abs rs rr.1, by omega, fun H9 u us s9 nu ur ug uv ul eu => ?_⟩
      have same : us = rs := lean_only us rs ur rr ug rg uv
      subst same
      refine ⟨.ref p, rfl, dI us, dI us, dp_ints (SqL.of eu), dp_ints (s9.seq (t8.seq kp4)), dI_shaped _, dI_shaped _, ?_⟩
      rw [dI_eqv, decide_eq_true rfl]
      exact q H9
end
/-! ### what the top has written; the law's own head -/
theorem all_mk {l : PySem.W.OpenLaw} {w : World} {K : PySem.W.Frag} {h : Heap} {mg : Str → Option Value} {fa : Addr} (X : K.In h) (G : h.Ns mainGlobals mg) (hfa : mg "law" = some (.ref fa))
    {f_is_whole : Addr} {od_is_whole an_is_whole : Option Addr} {sl_is_whole : Array (Option Value)} {oc_is_whole kV_is_whole dc_is_whole pm_is_whole cd_is_whole ct_is_whole : Value}
    (a_is_whole : PySem.W.nsIn K mainGlobals "is_whole" = some (some (.ref f_is_whole)))
    (l_is_whole : K.lookup f_is_whole = some ⟨oc_is_whole, od_is_whole, .func (PySem.W.fnOf "is_whole" "is_whole" (defArgs t_is_whole) (defBody t_is_whole) (defScope t_is_whole) .none kV_is_whole dc_is_whole pm_is_whole an_is_whole cd_is_whole ct_is_whole), sl_is_whole⟩)
    (c_is_whole : PySem.W.codeIn K cd_is_whole "is_whole" = true) (k_is_whole : PySem.W.keepIn K (.ref f_is_whole) = true)
    {f_is_figure : Addr} {od_is_figure an_is_figure : Option Addr} {sl_is_figure : Array (Option Value)} {oc_is_figure kV_is_figure dc_is_figure pm_is_figure cd_is_figure ct_is_figure : Value}
    (a_is_figure : PySem.W.nsIn K mainGlobals "is_figure" = some (some (.ref f_is_figure)))
    (l_is_figure : K.lookup f_is_figure = some ⟨oc_is_figure, od_is_figure, .func (PySem.W.fnOf "is_figure" "is_figure" (defArgs t_is_figure) (defBody t_is_figure) (defScope t_is_figure) .none kV_is_figure dc_is_figure pm_is_figure an_is_figure cd_is_figure ct_is_figure), sl_is_figure⟩)
    (c_is_figure : PySem.W.codeIn K cd_is_figure "is_figure" = true) (k_is_figure : PySem.W.keepIn K (.ref f_is_figure) = true)
    {f_is_row : Addr} {od_is_row an_is_row : Option Addr} {sl_is_row : Array (Option Value)} {oc_is_row kV_is_row dc_is_row pm_is_row cd_is_row ct_is_row : Value}
    (a_is_row : PySem.W.nsIn K mainGlobals "is_row" = some (some (.ref f_is_row)))
    (l_is_row : K.lookup f_is_row = some ⟨oc_is_row, od_is_row, .func (PySem.W.fnOf "is_row" "is_row" (defArgs t_is_row) (defBody t_is_row) (defScope t_is_row) .none kV_is_row dc_is_row pm_is_row an_is_row cd_is_row ct_is_row), sl_is_row⟩)
    (c_is_row : PySem.W.codeIn K cd_is_row "is_row" = true) (k_is_row : PySem.W.keepIn K (.ref f_is_row) = true)
    {f_refuse_no_row : Addr} {od_refuse_no_row an_refuse_no_row : Option Addr} {sl_refuse_no_row : Array (Option Value)} {oc_refuse_no_row kV_refuse_no_row dc_refuse_no_row pm_refuse_no_row cd_refuse_no_row ct_refuse_no_row : Value}
    (a_refuse_no_row : PySem.W.nsIn K mainGlobals "refuse_no_row" = some (some (.ref f_refuse_no_row)))
    (l_refuse_no_row : K.lookup f_refuse_no_row = some ⟨oc_refuse_no_row, od_refuse_no_row, .func (PySem.W.fnOf "refuse_no_row" "refuse_no_row" (defArgs t_refuse_no_row) (defBody t_refuse_no_row) (defScope t_refuse_no_row) .none kV_refuse_no_row dc_refuse_no_row pm_refuse_no_row an_refuse_no_row cd_refuse_no_row ct_refuse_no_row), sl_refuse_no_row⟩)
    (c_refuse_no_row : PySem.W.codeIn K cd_refuse_no_row "refuse_no_row" = true) (k_refuse_no_row : PySem.W.keepIn K (.ref f_refuse_no_row) = true)
    {f_refuse_no_number : Addr} {od_refuse_no_number an_refuse_no_number : Option Addr} {sl_refuse_no_number : Array (Option Value)} {oc_refuse_no_number kV_refuse_no_number dc_refuse_no_number pm_refuse_no_number cd_refuse_no_number ct_refuse_no_number : Value}
    (a_refuse_no_number : PySem.W.nsIn K mainGlobals "refuse_no_number" = some (some (.ref f_refuse_no_number)))
    (l_refuse_no_number : K.lookup f_refuse_no_number = some ⟨oc_refuse_no_number, od_refuse_no_number, .func (PySem.W.fnOf "refuse_no_number" "refuse_no_number" (defArgs t_refuse_no_number) (defBody t_refuse_no_number) (defScope t_refuse_no_number) .none kV_refuse_no_number dc_refuse_no_number pm_refuse_no_number an_refuse_no_number cd_refuse_no_number ct_refuse_no_number), sl_refuse_no_number⟩)
    (c_refuse_no_number : PySem.W.codeIn K cd_refuse_no_number "refuse_no_number" = true) (k_refuse_no_number : PySem.W.keepIn K (.ref f_refuse_no_number) = true)
    {f_worth : Addr} {od_worth an_worth : Option Addr} {sl_worth : Array (Option Value)} {oc_worth kV_worth dc_worth pm_worth cd_worth ct_worth : Value}
    (a_worth : PySem.W.nsIn K mainGlobals "worth" = some (some (.ref f_worth)))
    (l_worth : K.lookup f_worth = some ⟨oc_worth, od_worth, .func (PySem.W.fnOf "worth" "worth" (defArgs t_worth) (defBody t_worth) (defScope t_worth) .none kV_worth dc_worth pm_worth an_worth cd_worth ct_worth), sl_worth⟩)
    (c_worth : PySem.W.codeIn K cd_worth "worth" = true) (k_worth : PySem.W.keepIn K (.ref f_worth) = true)
    {f_marked : Addr} {od_marked an_marked : Option Addr} {sl_marked : Array (Option Value)} {oc_marked kV_marked dc_marked pm_marked cd_marked ct_marked : Value}
    (a_marked : PySem.W.nsIn K mainGlobals "marked" = some (some (.ref f_marked)))
    (l_marked : K.lookup f_marked = some ⟨oc_marked, od_marked, .func (PySem.W.fnOf "marked" "marked" (defArgs t_marked) (defBody t_marked) (defScope t_marked) .none kV_marked dc_marked pm_marked an_marked cd_marked ct_marked), sl_marked⟩)
    (c_marked : PySem.W.codeIn K cd_marked "marked" = true) (k_marked : PySem.W.keepIn K (.ref f_marked) = true)
    {f_is_lean : Addr} {od_is_lean an_is_lean : Option Addr} {sl_is_lean : Array (Option Value)} {oc_is_lean kV_is_lean dc_is_lean pm_is_lean cd_is_lean ct_is_lean : Value}
    (a_is_lean : PySem.W.nsIn K mainGlobals "is_lean" = some (some (.ref f_is_lean)))
    (l_is_lean : K.lookup f_is_lean = some ⟨oc_is_lean, od_is_lean, .func (PySem.W.fnOf "is_lean" "is_lean" (defArgs t_is_lean) (defBody t_is_lean) (defScope t_is_lean) .none kV_is_lean dc_is_lean pm_is_lean an_is_lean cd_is_lean ct_is_lean), sl_is_lean⟩)
    (c_is_lean : PySem.W.codeIn K cd_is_lean "is_lean" = true) (k_is_lean : PySem.W.keepIn K (.ref f_is_lean) = true)
    {f_lean : Addr} {od_lean an_lean : Option Addr} {sl_lean : Array (Option Value)} {oc_lean kV_lean dc_lean pm_lean cd_lean ct_lean : Value}
    (a_lean : PySem.W.nsIn K mainGlobals "lean" = some (some (.ref f_lean)))
    (l_lean : K.lookup f_lean = some ⟨oc_lean, od_lean, .func (PySem.W.fnOf "lean" "lean" (defArgs t_lean) (defBody t_lean) (defScope t_lean) .none kV_lean dc_lean pm_lean an_lean cd_lean ct_lean), sl_lean⟩)
    (c_lean : PySem.W.codeIn K cd_lean "lean" = true) (k_lean : PySem.W.keepIn K (.ref f_lean) = true)
    {f_lean_parts : Addr} {od_lean_parts an_lean_parts : Option Addr} {sl_lean_parts : Array (Option Value)} {oc_lean_parts kV_lean_parts dc_lean_parts pm_lean_parts cd_lean_parts ct_lean_parts : Value}
    (a_lean_parts : PySem.W.nsIn K mainGlobals "lean_parts" = some (some (.ref f_lean_parts)))
    (l_lean_parts : K.lookup f_lean_parts = some ⟨oc_lean_parts, od_lean_parts, .func (PySem.W.fnOf "lean_parts" "lean_parts" (defArgs t_lean_parts) (defBody t_lean_parts) (defScope t_lean_parts) .none kV_lean_parts dc_lean_parts pm_lean_parts an_lean_parts cd_lean_parts ct_lean_parts), sl_lean_parts⟩)
    (c_lean_parts : PySem.W.codeIn K cd_lean_parts "lean_parts" = true) (k_lean_parts : PySem.W.keepIn K (.ref f_lean_parts) = true)
    {f_places : Addr} {od_places an_places : Option Addr} {sl_places : Array (Option Value)} {oc_places kV_places dc_places pm_places cd_places ct_places : Value}
    (a_places : PySem.W.nsIn K mainGlobals "places" = some (some (.ref f_places)))
    (l_places : K.lookup f_places = some ⟨oc_places, od_places, .func (PySem.W.fnOf "places" "places" (defArgs t_places) (defBody t_places) (defScope t_places) .none kV_places dc_places pm_places an_places cd_places ct_places), sl_places⟩)
    (c_places : PySem.W.codeIn K cd_places "places" = true) (k_places : PySem.W.keepIn K (.ref f_places) = true)
    {f_Lcell_at : Addr} {od_Lcell_at an_Lcell_at : Option Addr} {sl_Lcell_at : Array (Option Value)} {oc_Lcell_at kV_Lcell_at dc_Lcell_at pm_Lcell_at cd_Lcell_at ct_Lcell_at : Value}
    (a_Lcell_at : PySem.W.nsIn K mainGlobals "_law_cell_at" = some (some (.ref f_Lcell_at)))
    (l_Lcell_at : K.lookup f_Lcell_at = some ⟨oc_Lcell_at, od_Lcell_at, .func (PySem.W.fnOf "_law_cell_at" "_law_cell_at" (defArgs t_Lcell_at) (defBody t_Lcell_at) (defScope t_Lcell_at) .none kV_Lcell_at dc_Lcell_at pm_Lcell_at an_Lcell_at cd_Lcell_at ct_Lcell_at), sl_Lcell_at⟩)
    (c_Lcell_at : PySem.W.codeIn K cd_Lcell_at "_law_cell_at" = true) (k_Lcell_at : PySem.W.keepIn K (.ref f_Lcell_at) = true)
    {f_Lmixed : Addr} {od_Lmixed an_Lmixed : Option Addr} {sl_Lmixed : Array (Option Value)} {oc_Lmixed kV_Lmixed dc_Lmixed pm_Lmixed cd_Lmixed ct_Lmixed : Value}
    (a_Lmixed : PySem.W.nsIn K mainGlobals "_law_mixed" = some (some (.ref f_Lmixed)))
    (l_Lmixed : K.lookup f_Lmixed = some ⟨oc_Lmixed, od_Lmixed, .func (PySem.W.fnOf "_law_mixed" "_law_mixed" (defArgs t_Lmixed) (defBody t_Lmixed) (defScope t_Lmixed) .none kV_Lmixed dc_Lmixed pm_Lmixed an_Lmixed cd_Lmixed ct_Lmixed), sl_Lmixed⟩)
    (c_Lmixed : PySem.W.codeIn K cd_Lmixed "_law_mixed" = true) (k_Lmixed : PySem.W.keepIn K (.ref f_Lmixed) = true)
    {f_Lworth : Addr} {od_Lworth an_Lworth : Option Addr} {sl_Lworth : Array (Option Value)} {oc_Lworth kV_Lworth dc_Lworth pm_Lworth cd_Lworth ct_Lworth : Value}
    (a_Lworth : PySem.W.nsIn K mainGlobals "_law_worth" = some (some (.ref f_Lworth)))
    (l_Lworth : K.lookup f_Lworth = some ⟨oc_Lworth, od_Lworth, .func (PySem.W.fnOf "_law_worth" "_law_worth" (defArgs t_Lworth) (defBody t_Lworth) (defScope t_Lworth) .none kV_Lworth dc_Lworth pm_Lworth an_Lworth cd_Lworth ct_Lworth), sl_Lworth⟩)
    (c_Lworth : PySem.W.codeIn K cd_Lworth "_law_worth" = true) (k_Lworth : PySem.W.keepIn K (.ref f_Lworth) = true)
    {f_Lrow : Addr} {od_Lrow an_Lrow : Option Addr} {sl_Lrow : Array (Option Value)} {oc_Lrow kV_Lrow dc_Lrow pm_Lrow cd_Lrow ct_Lrow : Value}
    (a_Lrow : PySem.W.nsIn K mainGlobals "_law_row" = some (some (.ref f_Lrow)))
    (l_Lrow : K.lookup f_Lrow = some ⟨oc_Lrow, od_Lrow, .func (PySem.W.fnOf "_law_row" "_law_row" (defArgs t_Lrow) (defBody t_Lrow) (defScope t_Lrow) .none kV_Lrow dc_Lrow pm_Lrow an_Lrow cd_Lrow ct_Lrow), sl_Lrow⟩)
    (c_Lrow : PySem.W.codeIn K cd_Lrow "_law_row" = true) (k_Lrow : PySem.W.keepIn K (.ref f_Lrow) = true)
    {f_Lbent : Addr} {od_Lbent an_Lbent : Option Addr} {sl_Lbent : Array (Option Value)} {oc_Lbent kV_Lbent dc_Lbent pm_Lbent cd_Lbent ct_Lbent : Value}
    (a_Lbent : PySem.W.nsIn K mainGlobals "_law_bent" = some (some (.ref f_Lbent)))
    (l_Lbent : K.lookup f_Lbent = some ⟨oc_Lbent, od_Lbent, .func (PySem.W.fnOf "_law_bent" "_law_bent" (defArgs t_Lbent) (defBody t_Lbent) (defScope t_Lbent) .none kV_Lbent dc_Lbent pm_Lbent an_Lbent cd_Lbent ct_Lbent), sl_Lbent⟩)
    (c_Lbent : PySem.W.codeIn K cd_Lbent "_law_bent" = true) (k_Lbent : PySem.W.keepIn K (.ref f_Lbent) = true)
    {f_law : Addr} {od_law an_law : Option Addr} {sl_law : Array (Option Value)} {oc_law kV_law dc_law pm_law cd_law ct_law : Value}
    (a_law : PySem.W.nsIn K mainGlobals "law" = some (some (.ref f_law)))
    (l_law : K.lookup f_law = some ⟨oc_law, od_law, .func (PySem.W.fnOf "law" "law" (defArgs t_law) (defBody t_law) (defScope t_law) .none kV_law dc_law pm_law an_law cd_law ct_law), sl_law⟩)
    (c_law : PySem.W.codeIn K cd_law "law" = true) (k_law : PySem.W.keepIn K (.ref f_law) = true)
    (z_isinstance : PySem.W.nsIn K mainGlobals "isinstance" = some none)
    (z_int : PySem.W.nsIn K mainGlobals "int" = some none)
    (z_bool : PySem.W.nsIn K mainGlobals "bool" = some none)
    (z_list : PySem.W.nsIn K mainGlobals "list" = some none)
    (z_all : PySem.W.nsIn K mainGlobals "all" = some none)
    (z_len : PySem.W.nsIn K mainGlobals "len" = some none)
    (z_reversed : PySem.W.nsIn K mainGlobals "reversed" = some none)
    (z_zip : PySem.W.nsIn K mainGlobals "zip" = some none)
    (z_max : PySem.W.nsIn K mainGlobals "max" = some none)
    (z_enumerate : PySem.W.nsIn K mainGlobals "enumerate" = some none)
    (z_range : PySem.W.nsIn K mainGlobals "range" = some none)
    {C_LeanError : Addr} (x_LeanError : PySem.W.nsIn K mainGlobals "LeanError" = some (some (.ref C_LeanError)))
    {C_NoNumber : Addr} (x_NoNumber : PySem.W.nsIn K mainGlobals "NoNumber" = some (some (.ref C_NoNumber)))
    {C_NoRow : Addr} (x_NoRow : PySem.W.nsIn K mainGlobals "NoRow" = some (some (.ref C_NoRow)))
    (dg : PySem.W.nsIn K cStatics "sys.int_max_str_digits" = some none) :
    ∃ fd : FuncData, (∀ (s : Shared) (v : Value), BindsTo s fd ⟨[v], []⟩ [("_law_script", v)]) ∧ ∀ base : Heap, K.In base → base.Ns mainGlobals mg → FnOk l.prog w K mg base CX0 6 fa fd p_law (sp_law K) := by
  have e := hfa.symm.trans (PySem.W.mg_of X G a_law)
  cases e
  have F_is_whole := fun_mk (st := t_is_whole) l_is_whole c_is_whole k_is_whole
  have b_is_whole := F_is_whole.binds (ps := p_is_whole) fun _ _ _ _ _ _ us hl => match us, hl with | [_], _ => rfl
  have F_is_figure := fun_mk (st := t_is_figure) l_is_figure c_is_figure k_is_figure
  have b_is_figure := F_is_figure.binds (ps := p_is_figure) fun _ _ _ _ _ _ us hl => match us, hl with | [_], _ => rfl
  have F_is_row := fun_mk (st := t_is_row) l_is_row c_is_row k_is_row
  have b_is_row := F_is_row.binds (ps := p_is_row) fun _ _ _ _ _ _ us hl => match us, hl with | [_], _ => rfl
  have F_refuse_no_row := fun_mk (st := t_refuse_no_row) l_refuse_no_row c_refuse_no_row k_refuse_no_row
  have b_refuse_no_row := F_refuse_no_row.binds (ps := p_refuse_no_row) fun _ _ _ _ _ _ us hl => match us, hl with | [_], _ => rfl
  have F_refuse_no_number := fun_mk (st := t_refuse_no_number) l_refuse_no_number c_refuse_no_number k_refuse_no_number
  have b_refuse_no_number := F_refuse_no_number.binds (ps := p_refuse_no_number) fun _ _ _ _ _ _ us hl => match us, hl with | [_], _ => rfl
  have F_worth := fun_mk (st := t_worth) l_worth c_worth k_worth
  have b_worth := F_worth.binds (ps := p_worth) fun _ _ _ _ _ _ us hl => match us, hl with | [_], _ => rfl
  have F_marked := fun_mk (st := t_marked) l_marked c_marked k_marked
  have b_marked := F_marked.binds (ps := p_marked) fun _ _ _ _ _ _ us hl => match us, hl with | [_, _], _ => rfl
  have F_is_lean := fun_mk (st := t_is_lean) l_is_lean c_is_lean k_is_lean
  have b_is_lean := F_is_lean.binds (ps := p_is_lean) fun _ _ _ _ _ _ us hl => match us, hl with | [_], _ => rfl
  have F_lean := fun_mk (st := t_lean) l_lean c_lean k_lean
  have b_lean := F_lean.binds (ps := p_lean) fun _ _ _ _ _ _ us hl => match us, hl with | [_], _ => rfl
  have F_lean_parts := fun_mk (st := t_lean_parts) l_lean_parts c_lean_parts k_lean_parts
  have b_lean_parts := F_lean_parts.binds (ps := p_lean_parts) fun _ _ _ _ _ _ us hl => match us, hl with | [_], _ => rfl
  have F_places := fun_mk (st := t_places) l_places c_places k_places
  have b_places := F_places.binds (ps := p_places) fun _ _ _ _ _ _ us hl => match us, hl with | [_, _], _ => rfl
  have F_Lcell_at := fun_mk (st := t_Lcell_at) l_Lcell_at c_Lcell_at k_Lcell_at
  have b_Lcell_at := F_Lcell_at.binds (ps := p_Lcell_at) fun _ _ _ _ _ _ us hl => match us, hl with | [_, _], _ => rfl
  have F_Lmixed := fun_mk (st := t_Lmixed) l_Lmixed c_Lmixed k_Lmixed
  have b_Lmixed := F_Lmixed.binds (ps := p_Lmixed) fun _ _ _ _ _ _ us hl => match us, hl with | [_, _], _ => rfl
  have F_Lworth := fun_mk (st := t_Lworth) l_Lworth c_Lworth k_Lworth
  have b_Lworth := F_Lworth.binds (ps := p_Lworth) fun _ _ _ _ _ _ us hl => match us, hl with | [_], _ => rfl
  have F_Lrow := fun_mk (st := t_Lrow) l_Lrow c_Lrow k_Lrow
  have b_Lrow := F_Lrow.binds (ps := p_Lrow) fun _ _ _ _ _ _ us hl => match us, hl with | [_], _ => rfl
  have F_Lbent := fun_mk (st := t_Lbent) l_Lbent c_Lbent k_Lbent
  have b_Lbent := F_Lbent.binds (ps := p_Lbent) fun _ _ _ _ _ _ us hl => match us, hl with | [_, _], _ => rfl
  have F_law := fun_mk (st := t_law) l_law c_law k_law
  have b_law := F_law.binds (ps := p_law) fun _ _ _ _ _ _ us hl => match us, hl with | [_], _ => rfl
  have T : Txt K mg := {
    a_is_whole := _, d_is_whole := _, F_is_whole := F_is_whole, b_is_whole := b_is_whole, g_is_whole := PySem.W.mg_of X G a_is_whole,
    a_is_figure := _, d_is_figure := _, F_is_figure := F_is_figure, b_is_figure := b_is_figure, g_is_figure := PySem.W.mg_of X G a_is_figure,
    a_is_row := _, d_is_row := _, F_is_row := F_is_row, b_is_row := b_is_row, g_is_row := PySem.W.mg_of X G a_is_row,
    a_refuse_no_row := _, d_refuse_no_row := _, F_refuse_no_row := F_refuse_no_row, b_refuse_no_row := b_refuse_no_row, g_refuse_no_row := PySem.W.mg_of X G a_refuse_no_row,
    a_refuse_no_number := _, d_refuse_no_number := _, F_refuse_no_number := F_refuse_no_number, b_refuse_no_number := b_refuse_no_number, g_refuse_no_number := PySem.W.mg_of X G a_refuse_no_number,
    a_worth := _, d_worth := _, F_worth := F_worth, b_worth := b_worth, g_worth := PySem.W.mg_of X G a_worth,
    a_marked := _, d_marked := _, F_marked := F_marked, b_marked := b_marked, g_marked := PySem.W.mg_of X G a_marked,
    a_is_lean := _, d_is_lean := _, F_is_lean := F_is_lean, b_is_lean := b_is_lean, g_is_lean := PySem.W.mg_of X G a_is_lean,
    a_lean := _, d_lean := _, F_lean := F_lean, b_lean := b_lean, g_lean := PySem.W.mg_of X G a_lean,
    a_lean_parts := _, d_lean_parts := _, F_lean_parts := F_lean_parts, b_lean_parts := b_lean_parts, g_lean_parts := PySem.W.mg_of X G a_lean_parts,
    a_places := _, d_places := _, F_places := F_places, b_places := b_places, g_places := PySem.W.mg_of X G a_places,
    a_Lcell_at := _, d_Lcell_at := _, F_Lcell_at := F_Lcell_at, b_Lcell_at := b_Lcell_at, g_Lcell_at := PySem.W.mg_of X G a_Lcell_at,
    a_Lmixed := _, d_Lmixed := _, F_Lmixed := F_Lmixed, b_Lmixed := b_Lmixed, g_Lmixed := PySem.W.mg_of X G a_Lmixed,
    a_Lworth := _, d_Lworth := _, F_Lworth := F_Lworth, b_Lworth := b_Lworth, g_Lworth := PySem.W.mg_of X G a_Lworth,
    a_Lrow := _, d_Lrow := _, F_Lrow := F_Lrow, b_Lrow := b_Lrow, g_Lrow := PySem.W.mg_of X G a_Lrow,
    a_Lbent := _, d_Lbent := _, F_Lbent := F_Lbent, b_Lbent := b_Lbent, g_Lbent := PySem.W.mg_of X G a_Lbent,
    a_law := _, d_law := _, F_law := F_law, b_law := b_law, g_law := PySem.W.mg_of X G a_law,
    z_isinstance := PySem.W.mg_none_of X G z_isinstance,
    z_int := PySem.W.mg_none_of X G z_int,
    z_bool := PySem.W.mg_none_of X G z_bool,
    z_list := PySem.W.mg_none_of X G z_list,
    z_all := PySem.W.mg_none_of X G z_all,
    z_len := PySem.W.mg_none_of X G z_len,
    z_reversed := PySem.W.mg_none_of X G z_reversed,
    z_zip := PySem.W.mg_none_of X G z_zip,
    z_max := PySem.W.mg_none_of X G z_max,
    z_enumerate := PySem.W.mg_none_of X G z_enumerate,
    z_range := PySem.W.mg_none_of X G z_range,
    c_LeanError := _, gc_LeanError := PySem.W.mg_of X G x_LeanError,
    c_NoNumber := _, gc_NoNumber := PySem.W.mg_of X G x_NoNumber,
    c_NoRow := _, gc_NoRow := PySem.W.mg_of X G x_NoRow,
    digits := dg }
  exact ⟨_, fun s v => .of_eq rfl, fun base _ _ => ok_law_at T F_law b_law⟩
end K04
open PySem PySem.W PyProof.Rows
set_option maxHeartbeats 0 in
theorem PySem.Challenge.cw_leanfigures_k04_whole_one_lean_row_holds : PySem.Challenge.rw_leanfigures_k04_whole_one_lean_row.Holds := by
  w_on; o_law; k_head; (case hw => w_witness2)
  k_fill
  refine L2.walk_of (l := PySem.Challenge.rw_leanfigures_k04_whole_one_lean_row) (n := 63) (k := 6) (x := "_law_script") (CX := fun _ => L2.CX0) (sp := fun w => K04.sp_law _) rfl (by decide) rfl ⟨rfl, by decide, by decide⟩ (fun w h Y => PySem.W.kIn_of Y) ?F (fun _ _ a ns hl _ hS => ⟨a, ns, rfl, hS, hl, fun _ => rfl⟩) (fun _ _ _ _ _ h => h)
  case F =>
    intro w mg fa h KX G hmg
    refine' K04.all_mk KX G hmg ?a_is_whole ?l_is_whole ?c_is_whole ?k_is_whole ?a_is_figure ?l_is_figure ?c_is_figure ?k_is_figure ?a_is_row ?l_is_row ?c_is_row ?k_is_row ?a_refuse_no_row ?l_refuse_no_row ?c_refuse_no_row ?k_refuse_no_row ?a_refuse_no_number ?l_refuse_no_number ?c_refuse_no_number ?k_refuse_no_number ?a_worth ?l_worth ?c_worth ?k_worth ?a_marked ?l_marked ?c_marked ?k_marked ?a_is_lean ?l_is_lean ?c_is_lean ?k_is_lean ?a_lean ?l_lean ?c_lean ?k_lean ?a_lean_parts ?l_lean_parts ?c_lean_parts ?k_lean_parts ?a_places ?l_places ?c_places ?k_places ?a_Lcell_at ?l_Lcell_at ?c_Lcell_at ?k_Lcell_at ?a_Lmixed ?l_Lmixed ?c_Lmixed ?k_Lmixed ?a_Lworth ?l_Lworth ?c_Lworth ?k_Lworth ?a_Lrow ?l_Lrow ?c_Lrow ?k_Lrow ?a_Lbent ?l_Lbent ?c_Lbent ?k_Lbent ?a_law ?l_law ?c_law ?k_law ?z_isinstance ?z_int ?z_bool ?z_list ?z_all ?z_len ?z_reversed ?z_zip ?z_max ?z_enumerate ?z_range ?x_LeanError ?x_NoNumber ?x_NoRow ?dg
    (case a_is_whole => k_is)
    (case l_is_whole => k_is)
    (case c_is_whole => k_is)
    (case k_is_whole => k_is)
    (case a_is_figure => k_is)
    (case l_is_figure => k_is)
    (case c_is_figure => k_is)
    (case k_is_figure => k_is)
    (case a_is_row => k_is)
    (case l_is_row => k_is)
    (case c_is_row => k_is)
    (case k_is_row => k_is)
    (case a_refuse_no_row => k_is)
    (case l_refuse_no_row => k_is)
    (case c_refuse_no_row => k_is)
    (case k_refuse_no_row => k_is)
    (case a_refuse_no_number => k_is)
    (case l_refuse_no_number => k_is)
    (case c_refuse_no_number => k_is)
    (case k_refuse_no_number => k_is)
    (case a_worth => k_is)
    (case l_worth => k_is)
    (case c_worth => k_is)
    (case k_worth => k_is)
    (case a_marked => k_is)
    (case l_marked => k_is)
    (case c_marked => k_is)
    (case k_marked => k_is)
    (case a_is_lean => k_is)
    (case l_is_lean => k_is)
    (case c_is_lean => k_is)
    (case k_is_lean => k_is)
    (case a_lean => k_is)
    (case l_lean => k_is)
    (case c_lean => k_is)
    (case k_lean => k_is)
    (case a_lean_parts => k_is)
    (case l_lean_parts => k_is)
    (case c_lean_parts => k_is)
    (case k_lean_parts => k_is)
    (case a_places => k_is)
    (case l_places => k_is)
    (case c_places => k_is)
    (case k_places => k_is)
    (case a_Lcell_at => k_is)
    (case l_Lcell_at => k_is)
    (case c_Lcell_at => k_is)
    (case k_Lcell_at => k_is)
    (case a_Lmixed => k_is)
    (case l_Lmixed => k_is)
    (case c_Lmixed => k_is)
    (case k_Lmixed => k_is)
    (case a_Lworth => k_is)
    (case l_Lworth => k_is)
    (case c_Lworth => k_is)
    (case k_Lworth => k_is)
    (case a_Lrow => k_is)
    (case l_Lrow => k_is)
    (case c_Lrow => k_is)
    (case k_Lrow => k_is)
    (case a_Lbent => k_is)
    (case l_Lbent => k_is)
    (case c_Lbent => k_is)
    (case k_Lbent => k_is)
    (case a_law => k_is)
    (case l_law => k_is)
    (case c_law => k_is)
    (case k_law => k_is)
    (case z_isinstance => k_is)
    (case z_int => k_is)
    (case z_bool => k_is)
    (case z_list => k_is)
    (case z_all => k_is)
    (case z_len => k_is)
    (case z_reversed => k_is)
    (case z_zip => k_is)
    (case z_max => k_is)
    (case z_enumerate => k_is)
    (case z_range => k_is)
    (case x_LeanError => k_is)
    (case x_NoNumber => k_is)
    (case x_NoRow => k_is)
    (case dg => k_is)
