import PyProof.Rows.All
import Wide.All
import OpenK.AllK
import Wide.FinOn
import HandS.ForMost
import HandS.ForExc
import HandS.TryMany
import HandS.ExcValue
import HandS.ExcIs
import HandS.Wide
import HandS.WideBits
import HandS.IsInst
import HandS.IntHex
import HandS.FStr
import HandS.Replace
import HandS.ReplaceList
import HandS.ReplaceLit
import HandS.StrMore
import HandS.Style
import HandS.SetFor
import HandS.TupLe
import HandS.TryOnly
import HandS.Conv
import HandS.More
import HandS.Rev
import HandS.RevTup
import HandS.List
import PyProof.FactsAll.subtypes_3
import KE.DatumOrd
import KE.KIntText
import KE.KxField
import KE.GoesZip
import KE.GoesMore
import KE.GoesEnum
import PyProof.FString3
import PyProof.Rows.StrRev
import PySem.Challenge.RW_leanfigures_k10_whole_least_deeds
set_option Elab.async false
set_option linter.all false
set_option maxRecDepth 100000
set_option maxHeartbeats 4000000
/-! int(text, 2), the text of any length. -/
namespace XB
open PySem PySem.NumText PySem.Calls L2

/-- binary signs alone -/
def Bits (cs : List Nat) : Prop := ∀ c ∈ cs, c = 48 ∨ c = 49
/-- what they are worth -/
def bitsVal (cs : List Nat) : Nat := cs.foldl (fun a c => 2 * a + (c - 48)) 0

theorem Bits.digits {cs : List Nat} (h : Bits cs) : AllDigits cs := fun c hc => by
  rcases h c hc with e | e <;> subst e <;> exact ⟨by decide, by decide⟩
theorem Bits.rev {cs : List Nat} (h : Bits cs) : Bits cs.reverse := fun c hc => h c (List.mem_reverse.mp hc)
theorem step2 {ds : Array Nat} {b : Bool} {c : Nat} (h : c = 48 ∨ c = 49) : PySem.NumText.step 2 (ds, b) c = some (ds.push (c - 48), true) := by
  rcases h with e | e <;> subst e <;> rfl
theorem fold2 : ∀ (cs : List Nat) (ds : Array Nat), Bits cs → List.foldlM (PySem.NumText.step 2) (ds, true) cs = some (List.foldl (fun acc c => acc.push (c - 48)) ds cs, true)
  | [], _, _ => rfl
  | c :: cs, ds, h => by
    rw [List.foldlM_cons, step2 (h c List.mem_cons_self)]
    exact fold2 cs (ds.push (c - 48)) fun d hd => h d (List.mem_cons_of_mem _ hd)
theorem digits2 {cs : List Nat} (h : Bits cs) (hne : cs ≠ []) : digits? 2 cs = some (List.foldl (fun acc c => acc.push (c - 48)) #[] cs) := by
  match cs, hne with
  | c :: r, _ =>
    unfold digits?
    rw [List.foldlM_cons, step2 (h c List.mem_cons_self)]
    have e := fold2 r ((#[] : Array Nat).push (c - 48)) fun d hd => h d (List.mem_cons_of_mem _ hd)
    show (List.foldlM (PySem.NumText.step 2) ((#[] : Array Nat).push (c - 48), true) r).bind _ = _
    rw [e]
    rfl
theorem pushed2 : ∀ (cs : List Nat) (ds : Array Nat), (List.foldl (fun acc c => acc.push (c - 48)) ds cs).foldl (fun acc d => acc * 2 + d) 0 =
    cs.foldl (fun a c => 2 * a + (c - 48)) (ds.foldl (fun acc d => acc * 2 + d) 0)
  | [], _ => rfl
  | c :: cs, ds => by
    rw [List.foldl_cons, pushed2 cs (ds.push (c - 48)), List.foldl_cons]
    congr 1
    simp [Nat.mul_comm]
theorem based2 {cs : List Nat} (h : Bits cs) : based 2 cs = (2, false, cs) := by
  match cs, h with
  | [], _ => rfl
  | [a], h =>
    rcases h a List.mem_cons_self with e | e <;> subst e <;> rfl
  | a :: c :: r, h =>
    have ha := h a List.mem_cons_self
    have hc := h c (List.mem_cons_of_mem _ List.mem_cons_self)
    rcases ha with e | e <;> rcases hc with e2 | e2 <;> subst e <;> subst e2 <;> rfl
theorem sign2 {cs : List Nat} (h : Bits cs) : sign cs = (false, cs) := by
  match cs, h with
  | [], _ => rfl
  | c :: r, h =>
    have := h c List.mem_cons_self
    exact sign_of (by omega) (by omega)
theorem read2 (limit : Nat) {cs : List Nat} (h : Bits cs) (hne : cs ≠ []) : (int_private% "readNumeral") limit 2 cs = (int_private% "Numeral.value") ((bitsVal cs : Nat) : Int) := by
  refine (readNumeral_eq limit 2 cs).trans ?_
  rw [dropWhile_digits h.digits, sign2 h]
  have e1 := based2 h
  show judge limit false (based 2 cs).1 (based 2 cs).2.1 (digits? (based 2 cs).1 (((based 2 cs).2.2.reverse.dropWhile blank).reverse)) = _
  rw [e1]
  show judge limit false 2 false (digits? 2 ((cs.reverse.dropWhile blank).reverse)) = _
  rw [dropWhile_digits h.rev.digits, List.reverse_reverse, digits2 h hne]
  have e2 := pushed2 cs #[]
  have z : (#[] : Array Nat).foldl (fun acc d => acc * 2 + d) 0 = 0 := by simp
  rw [z] at e2
  unfold judge
  dsimp only
  rw [e2]
  rfl
theorem seen2 {x : Str} (h : Bits x.cps.toList) : numTextOf x = x.cps.toList ∧ numSeenOf x = x.cps.toList :=
  numText_signs fun c hc => .inr (by have := h c hc; omega)

open PyProof.Rows in
theorem wp_maxDigits {M : Model} {A : Around} {E : Value → Shared → Prop} {s : Shared} {Q : Nat → Shared → Prop} (hn : s.heap.NoDigits) (h : Q 4300 s) : wpAny M A Builtin.intMaxStrDigits Q E s := by
  obtain ⟨mc, hns, hz⟩ := hn
  unfold Builtin.intMaxStrDigits
  refine wpAny_bind (wpAny_nsGet hns ?_)
  rw [hz]
  exact wpAny_pure h

theorem wp_text2 {M : Model} {A : Around} {E : Value → Shared → Prop} {s : Shared} {Q : Value → Shared → Prop} {v : Value} {text : List Nat} {n : Int}
    (hn : s.heap.NoDigits) (hr : ∀ limit, (int_private% "readNumeral") limit 2 (text.takeWhile (· != 0)) = (int_private% "Numeral.value") n)
    (ha : ((text.takeWhile (· != 0)).length == text.length) = true) (h : Q (.int n s.toks) { s with toks := s.toks + 1 }) :
    wpAny M A ((int_private% "intFromText") v text 2) Q E s := by
  obtain ⟨hp, g, d, tk, os⟩ := s
  by_cases hs : (text.takeWhile (· != 0)).length ≤ 640
  · exact Hx.wp_textB hs (hr 0) ha h
  · repeat (any_goals (first
      | assumption
      | (with_reducible refine wpAny_ite_false (decide_eq_false hs) ?_)
      | (with_reducible refine wpAny_ite_true (decide_eq_true ha) ?_)
      | ((with_reducible show wpAny _ _ Builtin.intMaxStrDigits _ _ _); refine wp_maxDigits hn ?_)
      | wp_step))
    all_goals (try rw [hr])
    all_goals (try dsimp only)
    repeat (any_goals (first
      | assumption
      | (with_reducible refine wpAny_ite_false (decide_eq_false hs) ?_)
      | (with_reducible refine wpAny_ite_true (decide_eq_true ha) ?_)
      | wp_step))

structure Held (p : Prop) : Prop where
  out : p
/-- what int(text, 2) wants of the state, and gives -/
def spec2 (n : Int) : Spec := fun _ R s => s.heap.NoDigits ∧ R (.ok (.ret (.int n s.toks))) { s with toks := s.toks + 1 }
set_option maxHeartbeats 4000000 in
theorem meets2 {x : PySem.Str} {u t : Tok} (h : Bits x.cps.toList) (hne : x.cps.toList ≠ []) :
    Meets (Builtin.«int.__new__» ⟨[.type "int", .str x u, .int 2 t], []⟩) (spec2 ((bitsVal x.cps.toList : Nat) : Int)) :=
  Meets.of_wp fun prog w A R s hQ => by
    obtain ⟨hp, g, d, tk, os⟩ := s
    have k1 := F.conv_sub_int
    have k2 := F.madeHere_int
    have k3 : typeOf (.str x u) = pure (.type "str") := rfl
    obtain ⟨e1, e2⟩ := seen2 h
    have hr : ∀ limit, (int_private% "readNumeral") limit 2 (numSeenOf x) = (int_private% "Numeral.value") ((bitsVal x.cps.toList : Nat) : Int) := by
      intro limit
      rw [e2]
      exact read2 limit h hne
    have ha : ((numSeenOf x).length == (numTextOf x).length) = true := by
      rw [e1, e2]
      exact beq_self_eq_true _
    have hk := Held.mk (And.intro hr (And.intro ha hQ))
    clear hr ha e1 e2 hne h hQ
    repeat (any_goals (first
      | assumption
      | ((with_reducible show wpAny _ _ ((int_private% "intFromText") _ _ _) _ _ _); refine wp_text2 hk.out.2.2.1 hk.out.1 hk.out.2.1 ?_)
      | wp_step))
    all_goals first | exact ⟨_, rfl, hk.out.2.2.2⟩ | skip
theorem call2 {prog : Program} {w : World} {A : Around} {E : Value → Shared → Prop} {s : Shared} {Q : Value → Shared → Prop} {x : PySem.Str} {u t : Tok} (hn : s.heap.NoDigits) (h : Bits x.cps.toList) (hne : x.cps.toList ≠ [])
    (hQ : Q (.int ((bitsVal x.cps.toList : Nat) : Int) s.toks) { s with toks := s.toks + 1 }) : wpAny (model prog w) A (call (.type "int") [.str x u, .int 2 t]) Q E s :=
  callType_new F.called_int F.newNe_int (Hx.typeCall_int_2 _ _) (Hx.newCall_int_2 _ _) (fun obj => F.initArgs_range_2 obj _ _) F.entry_int_new (meets2 h hne) ⟨hn, rfl, hQ⟩

/-- the facts of the written part: no limit on digits was set -/
theorem noDigits {K : PySem.W.Frag} {h : Heap} (X : K.In h) {mc : Str → Option Value} (G : h.Ns cStatics mc) (e : PySem.W.nsIn K cStatics "sys.int_max_str_digits" = some none) : h.NoDigits := by
  refine ⟨mc, G, ?_⟩
  obtain ⟨o, es, ep, ho, hd, _, hf⟩ := G
  unfold PySem.W.nsIn at e
  split at e
  · rename_i c d es' n' sl q
    have z := X _ _ q
    rw [ho] at z
    cases z
    cases hd
    split at e
    · exact nomatch e
    · rename_i hnone
      refine (hf "sys.int_max_str_digits").symm.trans ?_
      unfold nsFind
      unfold findBy
      rw [← Array.find?_toList, hnone]
      rfl
  · cases e
end XB
namespace L2
open PySem PySem.Spec PyProof.Rows
/-- int(text, 2), the text of binary signs -/
def rInt2 : List V → Hp → VK → Prop := fun xs H Q => ∃ x : Str, xs = [.str x, .int 2] ∧ XB.Bits x.cps.toList ∧ x.cps.toList ≠ [] ∧ Q (.int ((XB.bitsVal x.cps.toList : Nat) : Int)) H
theorem call_int2 {X : Cx} (e : PySem.W.nsIn X.K cStatics "sys.int_max_str_digits" = some none) : CallR X (.type "int") rInt2 := by
  intro pins s σ H xs us Q I r h
  obtain ⟨x, rfl, h1, h2, q⟩ := h
  obtain ⟨u, w', rfl, r1, r2⟩ := vals2 r
  obtain ⟨t1, rfl⟩ := r1
  obtain ⟨t2, rfl⟩ := r2
  obtain ⟨mc, G, _⟩ := I.nolimit
  exact XB.call2 (XB.noDigits I.kIn G e) h1 h2 ⟨.int _, H, I.tok _, ⟨_, rfl⟩, q⟩
end L2

namespace FG
open PySem PySem.Spec PyProof.Rows L2
/-! ### kinds of values -/
def intV : V → Bool
  | .int _ => true
  | _ => false
def figV : V → Bool
  | .int i => decide (-1 ≤ i) && decide (i ≤ 1)
  | _ => false
/-- what isinstance tells of a value: whether it is an int, a bool, a list -/
structure Kind (K : PySem.W.Frag) (H : Hp) (x : V) (i b l : Bool) : Prop where
  ex : ∃ t, TyX K H x t ∧ PySem.W.kitOne K t (.type "int") = some i ∧ PySem.W.kitOne K t (.type "bool") = some b ∧ PySem.W.kitOne K t (.type "list") = some l
section
variable {K : PySem.W.Frag} {H H' : Hp}
theorem same_upd {p : Addr} {o : HO} (h : H p = none) : Same H (upd H p o) := fun b x e => by
  have ne : b ≠ p := ne_of_none e h
  rw [upd_ne ne]
  exact e
theorem Same.tyx {x : V} {t : Value} (s : Same H H') (h : TyX K H x t) : TyX K H' x t := by
  cases h with
  | base b =>
    cases b with
    | non => exact .base .non
    | bl y => exact .base (.bl y)
    | int y => exact .base (.int y)
    | str y => exact .base (.str y)
    | flt y => exact .base (.flt y)
    | lst e => exact .base (.lst (s _ _ e))
    | frz e => exact .base (.frz (s _ _ e))
    | tup e => exact .base (.tup (s _ _ e))
    | dK e => exact .base (.dK (s _ _ e))
    | dT e => exact .base (.dT (s _ _ e))
    | ins e a b c d f => exact .base (.ins (s _ _ e) a b c d f)
  | byt y => exact .byt y
  | set e => exact .set (s _ _ e)
  | kList e c => exact .kList e c
  | kTuple e c => exact .kTuple e c
  | kDict e c => exact .kDict e c
  | fTuple e => exact .fTuple (s _ _ e)
  | fDict e => exact .fDict (s _ _ e)
theorem Kind.mono {x : V} {i b l : Bool} (k : Kind K H x i b l) (s : Same H H') : Kind K H' x i b l := by
  obtain ⟨t, h1, h2⟩ := k.ex
  exact ⟨⟨t, Same.tyx s h1, h2⟩⟩
theorem kind_of {x : V} {n : String} {i b l : Bool} (h : TyX K H x (.type n)) (h1 : kitB n "int" = some i) (h2 : kitB n "bool" = some b) (h3 : kitB n "list" = some l) : Kind K H x i b l :=
  ⟨⟨_, h, kit_ty h1, kit_ty h2, kit_ty h3⟩⟩
theorem kind_int (i : Int) : Kind K H (.int i) true false false := kind_of (.base (.int i)) (by decide +kernel) (by decide +kernel) (by decide +kernel)
theorem kind_bl (b : Bool) : Kind K H (.bl b) true true false := kind_of (.base (.bl b)) (by decide +kernel) (by decide +kernel) (by decide +kernel)
theorem kind_non : Kind K H .non false false false := kind_of (.base .non) (by decide +kernel) (by decide +kernel) (by decide +kernel)
theorem kind_str (x : Str) : Kind K H (.str x) false false false := kind_of (.base (.str x)) (by decide +kernel) (by decide +kernel) (by decide +kernel)
theorem kind_list {a : Addr} {xs : List V} (h : SqL K H a xs) : Kind K H (.ref a) false false true := by
  have z : TyX K H (.ref a) (.type "list") := by
    rcases h with h | ⟨o, its, n, hk, hc, _⟩
    · rcases h with h | ⟨o, h⟩
      · exact .base (.lst h)
      · exact .base (.frz h)
    · exact .kList hk hc
  exact kind_of z (by decide +kernel) (by decide +kernel) (by decide +kernel)
theorem kind_tup {a : Addr} {xs : List V} (h : H a = some (.tup xs)) : Kind K H (.ref a) false false false := kind_of (.base (.tup h)) (by decide +kernel) (by decide +kernel) (by decide +kernel)
theorem kind_dict {a : Addr} {kvs : List (Key × V)} (h : H a = some (.dK kvs)) : Kind K H (.ref a) false false false := kind_of (.base (.dK h)) (by decide +kernel) (by decide +kernel) (by decide +kernel)
/-- an int that is no bool: just the whole numbers -/
def Plain (K : PySem.W.Frag) (H : Hp) (x : V) : Prop := ∃ i b l, Kind K H x i b l ∧ (i && !b) = intV x
theorem Plain.mono {x : V} (h : Plain K H x) (s : Same H H') : Plain K H' x := let ⟨i, b, l, k, e⟩ := h; ⟨i, b, l, k.mono s, e⟩
theorem plain_int (i : Int) : Plain K H (.int i) := ⟨_, _, _, kind_int i, rfl⟩
theorem atI_getLast (xs : List V) (h : xs ≠ []) : atI xs (-1) = some (xs.getLast h) := by
  have e := atI_last xs.dropLast (xs.getLast h)
  rw [List.dropLast_concat_getLast] at e
  exact e
end

/-! ### rows of figures -/
/-- a row: figures alone, the last one other than 0 -/
def Row (ns : List Int) : Prop := (∀ n ∈ ns, -1 ≤ n ∧ n ≤ 1) ∧ ns.getLast? ≠ some 0
/-- what a row is worth -/
def val : List Int → Int
  | [] => 0
  | n :: r => n + 2 * val r
/-- the worth of a row's figures f alone, told by ones -/
def mk (f : Int) : List Int → Nat
  | [] => 0
  | n :: r => (if n = f then 1 else 0) + 2 * mk f r
theorem mk_val : ∀ ns : List Int, (∀ n ∈ ns, -1 ≤ n ∧ n ≤ 1) → ((mk 1 ns : Nat) : Int) - ((mk (-1) ns : Nat) : Int) = val ns
  | [], _ => rfl
  | n :: r, h => by
    have ih := mk_val r fun m hm => h m (List.mem_cons_of_mem _ hm)
    have hn := h n List.mem_cons_self
    show (((if n = 1 then 1 else 0) + 2 * mk 1 r : Nat) : Int) - (((if n = -1 then 1 else 0) + 2 * mk (-1) r : Nat) : Int) = n + 2 * val r
    have c : n = -1 ∨ n = 0 ∨ n = 1 := by omega
    rcases c with e | e | e <;> subst e <;> simp <;> omega
/-- the sign of a figure, asked for f -/
def sg (f n : Int) : Nat := if n = f then 49 else 48
theorem sg_bits (f : Int) (ns : List Int) : XB.Bits (48 :: ns.map (sg f)) := fun c hc => by
  rcases List.mem_cons.mp hc with e | e
  · exact .inl e
  · obtain ⟨n, _, e⟩ := List.mem_map.mp e
    subst e
    unfold sg
    split
    · exact .inr rfl
    · exact .inl rfl
theorem sg_val (f : Int) (ns : List Int) : XB.bitsVal (48 :: (ns.reverse.map (sg f))) = mk f ns := by
  unfold XB.bitsVal
  rw [List.foldl_cons, List.map_reverse, List.foldl_reverse]
  induction ns with
  | nil => rfl
  | cons n r ih =>
    rw [List.map_cons, List.foldr_cons, ih]
    show 2 * mk f r + (sg f n - 48) = (if n = f then 1 else 0) + 2 * mk f r
    unfold sg
    split <;> omega
/-! ### texts of signs -/
def sign1 (c : Nat) : Str := ⟨#[c]⟩
theorem joinL_nil : ∀ ls : List (List Nat), TL.joinL [] ls = ls.flatten
  | [] => rfl
  | [p] => by simp [TL.joinL]
  | p :: q :: r => by
    have ih := joinL_nil (q :: r)
    show p ++ ([] ++ TL.joinL [] (q :: r)) = (p :: q :: r).flatten
    rw [ih]
    simp
theorem joined_signs (e : Str) (he : e.cps.toList = []) (cs : List Nat) : (Txt.join e (cs.map sign1)).cps.toList = cs := by
  have h := TL.tl_join e (cs.map sign1)
  rw [← TL.join_eq] at h
  have h0 : TL.tl e = [] := he
  rw [h0, joinL_nil, List.map_map] at h
  refine Eq.trans h ?_
  induction cs with
  | nil => rfl
  | cons c r ih =>
    have h' := TL.tl_join e (r.map sign1)
    rw [← TL.join_eq, h0, joinL_nil, List.map_map] at h'
    rw [List.map_cons, List.flatten_cons, ih h']
    rfl
theorem app_list (a b : Str) : (a ++ b).cps.toList = a.cps.toList ++ b.cps.toList := by
  show (a.cps ++ b.cps).toList = _
  simp

/-! ### lists of whole numbers compared -/
def dI (ns : List Int) : PyData := .list (ns.map PyData.int)
theorem dI_depthAll : ∀ ns : List Int, PyData.depthAll (ns.map PyData.int) ≤ 1
  | [] => by simp [PyData.depthAll]
  | n :: r => by
    have ih := dI_depthAll r
    simp only [List.map_cons, PyData.depthAll, PyData.depth]
    omega
theorem dI_lay : ∀ ns : List Int, PyData.canLayAll0 (ns.map PyData.int) = true
  | [] => by simp [PyData.canLayAll0]
  | n :: r => by
    have ih := dI_lay r
    simp [PyData.canLayAll0, PyData.canLay0, ih]
theorem dI_shaped (ns : List Int) : SeqAt.shaped (dI ns) = true := by
  have h1 := dI_depthAll ns
  have h2 : PyData.depth (dI ns) ≤ 64 := by
    simp only [dI, PyData.depth]
    omega
  unfold SeqAt.shaped
  rw [Bool.and_eq_true]
  exact ⟨by simp only [dI, PyData.canLay0]; exact dI_lay ns, decide_eq_true h2⟩
theorem dI_eqvAll : ∀ ns ms : List Int, PyData.eqvAll (ns.map PyData.int) (ms.map PyData.int) = decide (ns = ms)
  | [], [] => by simp [PyData.eqvAll]
  | [], _ :: _ => by simp [PyData.eqvAll]
  | _ :: _, [] => by simp [PyData.eqvAll]
  | n :: r, m :: t => by
    have ih := dI_eqvAll r t
    simp only [List.map_cons, PyData.eqvAll, PyData.eqv, ih]
    by_cases h1 : n = m
    · by_cases h2 : r = t
      · simp [h1, h2]
      · simp [h1, h2]
    · simp [h1]
theorem dI_eqv (ns ms : List Int) : PyData.eqv (dI ns) (dI ms) = decide (ns = ms) := by
  show PyData.eqvAll _ _ = _
  exact dI_eqvAll ns ms
theorem dpAll {K : PySem.W.Frag} {H : Hp} : ∀ ns : List Int, DpAll K H (ns.map V.int) (ns.map PyData.int)
  | [] => .nil
  | n :: r => .cons (.int n) (dpAll r)
theorem dp_ints {K : PySem.W.Frag} {H : Hp} {a : Addr} {ns : List Int} (h : SqL K H a (ns.map V.int)) : Dp K H (.ref a) (dI ns) := .lst h (dpAll ns)
/-- the item behind the last but none: xs[-1:] -/
theorem cutLast (ns : List Int) : cutV (ns.map V.int) (some (-1)) none = (ns.drop (ns.length - 1)).map V.int := by
  have e : HT.sIx (ns.map V.int).length 0 (some (-1)) = ns.length - 1 := by
    show (if (-1 : Int) < 0 then ((-1 : Int) + ((ns.map V.int).length : Int)).toNat else min (-1 : Int).toNat (ns.map V.int).length) = _
    rw [if_pos (by decide), List.length_map]
    show ((-1 : Int) + (ns.length : Int)).toNat = ns.length - 1
    omega
  unfold cutV
  rw [e, HT.sIx_none, List.map_drop]
  apply List.take_of_length_le
  rw [List.length_drop, List.length_map]
  omega
theorem last_zero {ns : List Int} (h : ns.getLast? ≠ some 0) : ns.drop (ns.length - 1) ≠ [0] := fun e => by
  apply h
  rw [List.getLast?_eq_getElem?]
  have z := congrArg (fun l => l[0]?) e
  simp only [List.getElem?_drop] at z
  simpa using z
theorem val_append : ∀ (a b : List Int), val (a ++ b) = val a + 2 ^ a.length * val b
  | [], b => by simp [val]
  | n :: r, b => by
    have ih := val_append r b
    show n + 2 * val (r ++ b) = n + 2 * val r + 2 ^ (r.length + 1) * val b
    rw [ih, Int.pow_succ, Int.mul_add]
    have : (2 : Int) ^ r.length * 2 * val b = 2 * (2 ^ r.length * val b) := by
      rw [Int.mul_comm ((2 : Int) ^ r.length) 2, Int.mul_assoc]
    omega
theorem val_take {ns : List Int} {i : Nat} (h : i < ns.length) : val (ns.take (i + 1)) = val (ns.take i) + ns[i] * 2 ^ i := by
  rw [List.take_add_one, List.getElem?_eq_getElem h, val_append]
  have e : (ns.take i).length = i := by
    rw [List.length_take]
    omega
  rw [e]
  show _ + 2 ^ i * (ns[i] + 2 * 0) = _
  rw [Int.mul_zero, Int.add_zero, Int.mul_comm]

/-- a loop over enumerate of a list: Inv by the turn -/
theorem for_enum {K : PySem.W.Frag} {a : Addr} {xs : List V} {g : TG} {tb : TS} {D : Ends} {σ : L2.St} {H : Hp} (Iv : Nat → L2.St → Hp → Prop) (start : Iv 0 σ H) (still : ∀ i σ H, Iv i σ H → SqL K H a xs)
    (turn : ∀ (i : Nat) (x : V) (t : Addr) (σ : L2.St) (H : Hp), xs[i]? = some x → Iv i σ H → H t = none → g (.ref t) σ (upd H t (.tup [.int (i : Nat), x])) fun σ2 H2 => tb { D with nx := Iv (i + 1), ct := Iv (i + 1), bk := D.nx } σ2 H2)
    (stop : ∀ σ H, Iv xs.length σ H → D.nx σ H) :
    ∃ W : Nat → Nat → L2.St → Hp → Prop, (∃ m, W 0 m σ H) ∧ ∀ i m σ H, W i m σ H →
      ((Ite K a).stop i H ∧ D.nx σ H) ∨ ((Ite K a).go i H ∧ ∃ N : L2.St → Hp → Prop, (∀ σ' H', N σ' H' → ∃ m', m' < m ∧ W (i + 1) m' σ' H') ∧ ∀ v H', (Ite K a).yld i H v H' → g v σ H' fun σ2 H2 => tb { D with nx := N, ct := N, bk := D.nx } σ2 H2) := by
  refine ⟨fun i m σ H => i + m = xs.length ∧ Iv i σ H, ⟨xs.length, Nat.zero_add _, start⟩, fun i m σ H hW => ?_⟩
  obtain ⟨em, iv⟩ := hW
  have sq := still i σ H iv
  by_cases hi : i < xs.length
  · refine .inr ⟨⟨xs, xs[i], sq, List.getElem?_eq_getElem hi⟩, Iv (i + 1), fun σ' H' h' => ⟨m - 1, by omega, by omega, h'⟩, fun v H' hy => ?_⟩
    obtain ⟨t, x, rfl, nt, rfl, fx⟩ := hy
    exact turn i x t σ H (fx _ sq) iv nt
  · have e : i = xs.length := by omega
    subst e
    exact .inl ⟨⟨xs, sq, Nat.le_refl _⟩, stop σ H iv⟩
theorem small_ok {n : Nat} (h : n ≤ 64) : n ≤ sizeLine := Nat.le_trans h (by decide)
/-- of each two neighbours one is 0 -/
def gaps : List Int → Bool
  | x :: y :: r => (decide (x = 0) || decide (y = 0)) && gaps (y :: r)
  | _ => true
/-- a row is handed in at a -/
def RowAt (K : PySem.W.Frag) (H : Hp) (a : Addr) (ns : List Int) : Prop := SqL K H a (ns.map V.int) ∧ Row ns ∧ ns.length ≤ 4000000
theorem RowAt.mono {K : PySem.W.Frag} {H H' : Hp} {a : Addr} {ns : List Int} (r : RowAt K H a ns) (s : Same H H') : RowAt K H' a ns := ⟨s.seq r.1, r.2⟩
end FG

/-! an f-string with the field {n:b} -/
namespace XB
open PySem PySem.Calls PySem.W Builtin Builtin.Int Builtin.Float PyProof.Rows

/-- the signs of a number at twos, a minus ahead -/
def binSigns (a : Int) : List Nat := (if decide (a < 0) = true then [45] else []) ++ (Nat.toDigits 2 a.natAbs).map Char.toNat
def binText (a : Int) : PySem.Str := ⟨(binSigns a).toArray⟩

theorem toDigits_ne (n : Nat) : (Nat.toDigits 2 n).isEmpty = false := by
  cases e : Nat.toDigits 2 n with
  | cons c r => rfl
  | nil => 
    have := Nat.toDigits_ne_nil (n := n) (b := 2)
    exact absurd e this

/-- a field without width, fill or sign -/
theorem plainField (f : FormatSpec) (a : Int) (hd : (Nat.toDigits 2 a.natAbs).isEmpty = false) (h1 : f.width = none) (h2 : f.sign = none) (h3 : f.grouping = none) (h4 : f.align = 62) (h5 : f.fill = 32) :
    intField' f (decide (a < 0)) [] ((Nat.toDigits 2 a.natAbs).map fun c => (if (98 : Nat) == 88 then c.toUpper else c).toNat) [] 4 = binText a := by
  have e0 : ((Nat.toDigits 2 a.natAbs).map fun c => (if (98 : Nat) == 88 then c.toUpper else c).toNat) = (Nat.toDigits 2 a.natAbs).map Char.toNat := rfl
  rw [e0]
  have e1 : ((Nat.toDigits 2 a.natAbs).map Char.toNat).isEmpty = false := by simpa using hd
  unfold intField' binText binSigns
  simp only [h1, h2, h3, h4, h5, e1]
  by_cases hn : a < 0
  · simp [hn]
  · simp [hn]

set_option maxHeartbeats 4000000 in
theorem meets_b (a : Int) (t u : Tok) (hl : (binText a).length ≤ sizeLine) : Meets (Builtin.«int.__format__» ⟨[.int a t, .str (Str.ofString "b") u], []⟩) (fun _ R s => ∀ t' k, R (.ok (.ret (.str (binText a) t'))) { s with toks := k }) := by
  apply KPc.meets_of
  intro prog w A R s Q hQ
  unfold Builtin.«int.__format__»
  refine wpAny_bind (wpAny_of_eq (a := (_, _)) rfl ?_)
  refine wpAny_bind (wpAny_of_eq (a := a) rfl ?_)
  kxf_if
  refine wpAny_bind (wpAny_typeNameOf (T := "str") (typeIs_str _ _ _) (by decide) fun _ => ?_)
  refine wpAny_bind (wpAny_of_eq (a := some _) rfl ?_)
  kxf_if
  kxf_if
  refine wpAny_bind (wpAny_typeNameOfCut_int ?_)
  have ep : ∃ f, parseFormatSpec (Str.ofString "b").cps.toList "int" 62 = .ok f ∧ f.type = some 98 ∧ f.precision = none ∧ f.noNeg0 = false ∧ f.width = none ∧ f.alt = false ∧ f.sign = none ∧ f.grouping = none ∧ f.align = 62 ∧ f.fill = 32 := ⟨_, rfl, rfl, rfl, rfl, rfl, rfl, rfl, rfl, rfl, rfl⟩
  obtain ⟨f, e0, e1, e2, e3, e4, e5, e6, e7, e8, e9⟩ := ep
  have hf := fun hd => plainField f a hd e4 e6 e7 e8 e9
  have hd := toDigits_ne a.natAbs
  rw [e0]
  dsimp only
  rw [e1]
  kxf_if
  cases f
  dsimp only at e1 e2 e3 e4 e5 e6 e7 e8 e9
  subst e1 e2 e3 e4 e5 e6 e7 e8 e9
  exact KXf.ret_text (hf hd) (Nat.le_trans (Nat.le_of_eq (congrArg PySem.Str.length (hf hd))) hl) hQ
theorem field_b {prog : Program} {w : World} {A : Around} {E : Value → Shared → Prop} {s : Shared} {Q : Value → Shared → Prop} {a : Int} {t : Tok} (hl : (binText a).length ≤ sizeLine)
    (h : ∀ t' k, Q (.str (binText a) t') { s with toks := k }) : wpAny (model prog w) A (formatField (.int a t) (Str.ofString "b")) Q E s :=
  KXf.field_int rfl (by decide +kernel) (by decide +kernel) (fun u => meets_b a t u hl) h
end XB
namespace L2
open PySem PySem.Spec PyProof.Rows
/-- {n:b}: a whole number at twos -/
def tFmtB (te : TE) : TE := fun σ H Q => te σ H fun x H1 => ∃ i : Int, x = .int i ∧ (XB.binText i).length ≤ sizeLine ∧ Q (.str (XB.binText i)) H1
theorem pe_fmtB {X : Cx} {e : Expr} {te : TE} {pos p1 p2 : Pos} {k : Nat} (he : PE X e te) : PE X (.FormattedValue e (-1) (some (.JoinedStr [.Constant (.str (Str.ofString "b")) k p1] p2)) pos) (tFmtB te) := by
  refine ⟨fun pins s σ H Q I h => ?_⟩
  refine wpAny_FormattedValue_spec (thn (he.run pins s σ H _ I h) fun v s1 hv => ?_)
  obtain ⟨x, H1, I1, r1, i, rfl, hz, q⟩ := hv
  obtain ⟨t, rfl⟩ := r1
  refine wpAny_JoinedStr_one (Calls.Constant_str ⟨_, _, rfl, ?_⟩)
  exact XB.field_b hz fun t' k' => ⟨.str (XB.binText i), H1, I1.tok _, ⟨_, rfl⟩, q⟩
end L2

/-! text[::-1] -/
namespace L2
open PySem PySem.Spec PyProof.Rows PySem.Builtin PySem.Builtin.Str
/-- the signs of a text, turned round -/
theorem turned_list (x : Str) (u : Tok) : (Txt.sliceBy x none none (-1, u)).cps.toList = x.cps.toList.reverse := by
  rw [step_rev_list]
  apply List.ext_getElem
  · rw [List.length_map, List.length_range, List.length_reverse, Array.length_toList]
    rfl
  · intro i h1 h2
    have hi : i < x.cps.size := by simpa using h2
    have e : x.length = x.cps.size := rfl
    rw [List.getElem_map, List.getElem_range, List.getElem_reverse, e]
    have hj : x.cps.size - 1 - i < x.cps.size := by omega
    simp [Array.getD, hj]
def tRevT (te : TE) : TE := fun σ H Q => te σ H fun x H1 => ∃ z : Str, x = .str z ∧ z.length ≤ sizeLine ∧ ∀ y : Str, y.cps.toList = z.cps.toList.reverse → Q (.str y) H1
theorem pe_revT {X : Cx} {e : Expr} {te : TE} {k : Nat} {p1 p2 p3 pos : Pos} (he : PE X e te) : PE X (.Subscript e (.Slice none none (some (.UnaryOp .USub (.Constant (.int 1) k p1) p2)) p3) pos) (tRevT te) := by
  refine ⟨fun pins s σ H Q I h => ?_⟩
  refine Subscript_ (thn (he.run pins s σ H _ I h) fun v s1 ⟨x, H1, I1, r1, z, ex, hz, q⟩ => ?_)
  subst ex
  obtain ⟨t, rfl⟩ := r1
  have hst : PO X (some (.UnaryOp .USub (.Constant (.int 1) k p1) p2)) (tPart (tUn (rU fun i => .int (-i)) (tC (.int 1)))) := po_some (pe_un un_neg pe_int)
  refine wpAny_Slice (thn (po_none.run pins s1 σ H1 (fun o H2 => o = none ∧ H2 = H1) I1 ⟨rfl, rfl⟩) fun vl s2 ⟨l, H2, I2, pl, el, e2⟩ => ?_)
  subst el
  subst e2
  refine thn (po_none.run pins s2 σ H2 (fun o H3 => o = none ∧ H3 = H2) I2 ⟨rfl, rfl⟩) fun vu s3 ⟨u, H3, I3, pu, eu, e3⟩ => ?_
  subst eu
  subst e3
  refine thn (hst.run pins s3 σ H3 (fun o H4 => o = some (-1) ∧ H4 = H3) I3 ⟨1, rfl, -1, rfl, rfl, rfl⟩) fun vs s4 ⟨o, H4, I4, ps, eo, e4⟩ => ?_
  subst eo
  subst e4
  obtain ⟨l', h1, h2⟩ := IsPart.raw pl
  obtain ⟨u', h3, h4⟩ := IsPart.raw pu
  obtain ⟨st', h5, h6⟩ := IsPart.raw ps
  cases l' with
  | some y => exact nomatch h2
  | none =>
    cases u' with
    | some y => exact nomatch h4
    | none =>
      cases st' with
      | none => exact nomatch h6
      | some y =>
        obtain ⟨j, tj⟩ := y
        have ej : j = -1 := Option.some.inj h6
        subst ej
        subst h1
        subst h3
        subst h5
        have I5 : Inv X pins σ H4 { s4 with heap := s4.heap.push { cls := .type "slice", data := .fields #[.none, .none, .int (-1) tj] } } := I4.kept (t' := s4.toks) fun b ob g => Heap.get?_push_of_some _ g
        refine tail_any (ops := [.ref s4.heap.objs.size, .str z t]) (typeIs_str _ _ _) PySem.F.slot_str_getitem.lookup ?_ (by with_unfolding_all rfl)
        refine wpAny_getItem_str_slice (l := none) (u := none) (st := some (-1, tj)) ⟨_, Heap.get?_push_size _ rfl, rfl, rfl⟩ rfl ?_
        refine post_val_or_str ⟨Nat.le_trans (Txt.sliceBy_le z none none (-1, tj) (show (-1 : Int) ≠ 0 by decide)) hz, fun t' c => ?_⟩
        exact ⟨.str (Txt.sliceBy z none none (-1, tj)), H4, I5.tok _, ⟨_, rfl⟩, q _ (turned_list z tj)⟩
end L2

set_option maxHeartbeats 4000000
/-! for a, b in zip(x, y), x and y two texts -/
namespace FG
open PySem PySem.Spec PyProof.Rows L2
/-- two texts, sign by sign, the signs in new pairs -/
def ItzS (x y : Str) : It :=
  ⟨fun i _ => i < x.cps.size ∧ i < y.cps.size, fun i H v H' => ∃ t c d, v = .ref t ∧ H t = none ∧ H' = upd H t (.tup [.str (sign1 c), .str (sign1 d)]) ∧ x.cps[i]? = some c ∧ y.cps[i]? = some d,
    fun i _ => x.cps.size ≤ i ∨ y.cps.size ≤ i⟩
/-- where the zip stands at its turn -/
def StzS (z q1 q2 i1 i2 : Addr) (x y : Str) (t u : Tok) (i : Nat) (h : Heap) : Prop :=
  i ≤ x.cps.size ∧ i ≤ y.cps.size ∧ IsZip h z q1 q2 .none ∧ IsTupOf2 h q1 (.ref i1) (.ref i2) ∧ (∃ a b, IsTupOf2 h q2 a b) ∧ h.IsStrIter i1 (strIterType x) x t i ∧ h.IsStrIter i2 (strIterType y) y u i
theorem turn_zipS {P : Program} {w : World} {K : PySem.W.Frag} {elts : List Expr} {kk : Nat} {tpos : Pos} {z q1 q2 i1 i2 : Addr} {x y : Str} {t u : Tok} (D : ZipSep2 z q1 q2 i1 i2 [i1] [i2]) :
    Turn P w K (.Tuple elts kk tpos) (ItzS x y) [z, q1, q2, i1, i2] z (StzS z q1 q2 i1 i2 x y t u) where
  mem := by simp
  obj := fun i h st c hc => by
    obtain ⟨_, _, hz, h1, ⟨a, b, h2⟩, ⟨o1, g1, _, d1⟩, ⟨o2, g2, _, d2⟩⟩ := st
    have hc' : c = z ∨ c = q1 ∨ c = q2 ∨ c = i1 ∨ c = i2 := by simpa using hc
    rcases hc' with e | e | e | e | e <;> subst e
    · exact ⟨_, hz, fun v q => nomatch q⟩
    · exact ⟨_, h1, fun v q => nomatch q⟩
    · exact ⟨_, h2, fun v q => nomatch q⟩
    · exact ⟨o1, g1, fun v q => by rw [d1] at q; exact nomatch q⟩
    · exact ⟨o2, g2, fun v q => by rw [d2] at q; exact nomatch q⟩
  keep := fun i h h' st k => by
    obtain ⟨l1, l2, hz, h1, ⟨a, b, h2⟩, g1, g2⟩ := st
    obtain ⟨o1, e1, r1⟩ := g1
    obtain ⟨o2, e2, r2⟩ := g2
    exact ⟨l1, l2, k z (by simp) _ hz, k q1 (by simp) _ h1, ⟨a, b, k q2 (by simp) _ h2⟩, ⟨o1, k i1 (by simp) _ e1, r1⟩, ⟨o2, k i2 (by simp) _ e2, r2⟩⟩
  item := by
    intro X hP hw hK hc i pins s σ H E I hf st hg
    subst hP
    subst hw
    subst hK
    obtain ⟨l1, l2, hz, h1, ⟨a, b, h2⟩, g1, g2⟩ := st
    have hh := I.ok.hd hc
    have zl : z < s.heap.objs.size := Heap.lt_size hz
    refine wpAny_pyNext_zipD2_item D (Draws.text (A := X.A.in1) hh i1 x t) (Draws.text (A := X.A.in1) hh i2 y u) hz h1 h2 g1 g2 hg.1 hg.2 fun v1 v2 h' tk p1 p2 z' h2' g1' g2' hT hsz hk => ?_
    obtain ⟨c, u1, ec, rfl⟩ := p1
    obtain ⟨d, u2, ed, rfl⟩ := p2
    refine ⟨_, rfl, wpAny_letOwnedTupleGo_zip (s := { s with heap := h', toks := tk }) z' fun h'' z'' sb => ?_⟩
    have far : s.heap.objs.size ≠ z := Nat.ne_of_gt zl
    have hT2 := (sb.2 _ far).trans hT
    have new : ObjOk X.prog X.w (upd H s.heap.objs.size (.tup [.str (sign1 c), .str (sign1 d)])) h'' s.heap.objs.size (.tup [.str (sign1 c), .str (sign1 d)]) :=
      ⟨small_ok (by simp), [_, _], .cons ⟨u1, rfl⟩ (.cons ⟨u2, rfl⟩ .nil), ⟨_, hT2, rfl, _, rfl⟩⟩
    have I1 : Inv X pins σ (upd H s.heap.objs.size (.tup [.str (sign1 c), .str (sign1 d)])) { s with heap := h'', toks := tk } :=
      I.turnedNew (t' := tk) (ch := [z, q1, q2, i1, i2]) (fun b o hb e => (sb.2 b fun r => hb (by simp [r])).trans (hk b o (fun r => hb (by simp [r])) (fun r => hb (by simp [r])) (fun r => hb (by simp [r])) (fun r => hb (by simp [r])) e)) hf (Nat.le_refl _) new
    have keepI : ∀ {j : Addr} {w : Str} {v : Tok} {m : Nat}, j ≠ z → h'.IsStrIter j (strIterType w) w v m → h''.IsStrIter j (strIterType w) w v m := fun nj ⟨o, e, r⟩ => ⟨o, (sb.2 _ nj).trans e, r⟩
    refine ⟨.ref s.heap.objs.size, _, I1, rfl, ⟨_, c, d, rfl, I.hok.fresh (Nat.le_refl _), rfl, ec, ed⟩, ⟨hg.1, hg.2, z'', ?_, ⟨.str ⟨#[c]⟩ u1, .str ⟨#[d]⟩ u2, ?_⟩, keepI D.zi1.symm g1', keepI D.zi2.symm g2'⟩, fun b hb => ?_⟩
    · exact (sb.2 _ D.TIz).trans (hk _ _ D.TIz D.TITO D.TIi1 D.TIi2 h1)
    · exact (sb.2 _ D.TOz).trans h2'
    · have lb : b < s.heap.objs.size := by
        obtain ⟨o1, e1, _⟩ := g1
        obtain ⟨o2, e2, _⟩ := g2
        have hb' : b = z ∨ b = q1 ∨ b = q2 ∨ b = i1 ∨ b = i2 := by simpa using hb
        rcases hb' with r | r | r | r | r <;> rw [r]
        · exact zl
        · exact Heap.lt_size h1
        · exact Heap.lt_size h2
        · exact Heap.lt_size e1
        · exact Heap.lt_size e2
      rw [upd_ne (Nat.ne_of_lt lb)]
      exact (hf b hb).1
  done := by
    intro X hP hw hK hc i pins s σ H E I hf st hg
    subst hP
    subst hw
    subst hK
    obtain ⟨l1, l2, hz, h1, ⟨a, b, h2⟩, g1, g2⟩ := st
    have hh := I.ok.hd hc
    have he : i = x.cps.size ∨ i = y.cps.size := by
      rcases hg with e | e
      · exact .inl (Nat.le_antisymm l1 e)
      · exact .inr (Nat.le_antisymm l2 e)
    exact wpAny_pyNext_zipD2_end D (Draws.text (A := X.A.in1) hh i1 x t) (Draws.text (A := X.A.in1) hh i2 y u) hz h1 h2 g1 g2 l1 l2 he fun h' tk hk => ⟨rfl, I.turnedL (t' := tk) (ch := [z, q1, q2, i1, i2]) (fun c o hb e =>
      hk c o (fun r => hb (by simp [r])) (fun r => hb (by simp [r])) (fun r => hb (by simp [r])) (fun r => hb (by simp [r])) e) hf⟩
  self := fun A i s Q E st h => wpAny_pyIter_zip st.2.2.1 h
def iZipS (ta : TA) : TI := fun σ H R => ta σ H fun vs H1 => ∃ x y : Str, vs = [.str x, .str y] ∧ R (ItzS x y) H1
theorem pi_zipS {X : Cx} {e e2 : Expr} {ta : TA} {p pos tpos : Pos} {elts : List Expr} {kk : Nat} (hg : Gl X "zip") (hm : X.mg "zip" = none) (ha : PA X [e, e2] ta)
    (hs : starEach [e, e2] X.env = (false, eval e X.env) :: starEach [e2] X.env := by rfl) (hpl : (backTo pos (starEach [e2] X.env)).any (·.1) = false := by rfl) :
    PI X (.Tuple elts kk tpos) (.Call (.Name "zip" p) [e, e2] [] pos) (iZipS ta) := by
  refine ⟨fun pins s σ H R I h => ?_⟩
  refine Call_ (ld_blt I hg hm PyProof.Rows.boot_zip (PyProof.Rows.callWith_type1 (thn (ha.run pos pins s σ H _ I h) fun us s1 ⟨vs, H1, I1, r1, x, y, ev, q⟩ => ?_) hs hpl))
  subst ev
  obtain ⟨v1, v2, rfl, g1, g2⟩ := vals2 r1
  obtain ⟨t, rfl⟩ := g1
  obtain ⟨u, rfl⟩ := g2
  refine zip_begins2 (begins_text x t) (begins_text y u) trivial trivial fun h' hz h1 h2 e1 e2 hsz hk => wpAny_pyIter_zip hz ?_
  have I2 : Inv X pins σ H1 { s1 with heap := h' } := I1.kept (t' := s1.toks) hk
  have D : ZipSep2 (s1.heap.objs.size + 4) (s1.heap.objs.size + 2) (s1.heap.objs.size + 3) s1.heap.objs.size (s1.heap.objs.size + 1) [s1.heap.objs.size] [s1.heap.objs.size + 1] :=
    zip_sep2 (N := s1.heap.objs.size) (fp1 := []) (fp2 := []) (fun b hb => nomatch hb) (fun b hb => nomatch hb)
  refine ⟨s1.heap.objs.size + 4, [s1.heap.objs.size + 4, s1.heap.objs.size + 2, s1.heap.objs.size + 3, s1.heap.objs.size, s1.heap.objs.size + 1], _, _, H1, rfl, I2, turn_zipS (x := x) (y := y) (t := t) (u := u) D,
    ⟨Nat.zero_le _, Nat.zero_le _, hz, h1, ⟨_, _, h2⟩, ⟨_, e1, rfl, rfl⟩, ⟨_, e2, rfl, rfl⟩⟩, fun b hb => ?_, q⟩
  have hb' : b = s1.heap.objs.size + 4 ∨ b = s1.heap.objs.size + 2 ∨ b = s1.heap.objs.size + 3 ∨ b = s1.heap.objs.size ∨ b = s1.heap.objs.size + 1 := by simpa using hb
  have lb : s1.heap.objs.size ≤ b := by
    rcases hb' with r | r | r | r | r <;> rw [r]
    · exact Nat.le_add_right _ _
    · exact Nat.le_add_right _ _
    · exact Nat.le_add_right _ _
    · exact Nat.le_refl _
    · exact Nat.le_add_right _ _
  exact I1.fpOk lb (I1.hok.fresh lb)
end FG

namespace FG
open PySem PySem.Spec PyProof.Rows L2
/-- list + list, each one a list that is read, the script too -/
def rCatS (K : PySem.W.Frag) : R2 := fun x y H Q => ∃ l b xs zs, x = .ref l ∧ y = .ref b ∧ SqL K H l xs ∧ SqL K H b zs ∧ xs.length + zs.length ≤ sizeLine ∧ ∀ p, H p = none → Q (.ref p) (upd H p (.lst (xs ++ zs)))
theorem op_catS {X : Cx} : OpR X (binaryOp .Add) (rCatS X.K) := by
  intro pins s σ H x y v u Q I rx ry h
  obtain ⟨l, b, xs, zs, rfl, rfl, h1, h2, hz, q⟩ := h
  cases rx
  cases ry
  obtain ⟨its, r1, p1, _⟩ := I.list h1
  obtain ⟨jts, r2, p2, _⟩ := I.list h2
  obtain ⟨⟨c1, e1, d1, t1⟩, g1, k1, n1, w1⟩ := p1.isList
  obtain ⟨⟨c2, e2, d2, t2⟩, g2, k2, n2, w2⟩ := p2.isList
  simp only at k1 w1 k2 w2
  subst k1
  subst w1
  subst k2
  subst w2
  have hl1 := r1.length
  have hl2 := r2.length
  have e : its.toArray ++ jts.toArray = (its ++ jts).toArray := by simp
  refine concat_meets ⟨_, g1, rfl⟩ ⟨_, g2, rfl⟩ noFill_list_add seq_list_add PySem.F.slot_list_add PySem.F.entry_list_add (PySem.F.args_list_add_2 _ _)
    (list_addW l b its.toArray jts.toArray n1 n2 e1 e2 t1 t2 (by rw [List.size_toArray, List.size_toArray]; omega)) ⟨g1, g2, ?_⟩
  rw [e]
  exact ⟨.ref _, _, I.lnew (t' := s.toks) (r1.append r2) (by rw [List.length_append]; omega), rfl, q _ I.fresh⟩
end FG

set_option maxHeartbeats 4000000
namespace FG
open PySem PyProof.Rows L2
open PySem.Builtin (bitAnd bitOr bitXor bitNot)
/-! ### the places of whole numbers -/
theorem nat_and (a b : Nat) : a &&& b = 2 * (a / 2 &&& b / 2) + (a % 2) * (b % 2) := by
  have h1 := @Nat.and_div_two a b
  have h2 := @Nat.and_mod_two_eq_one a b
  have ha : a % 2 = 0 ∨ a % 2 = 1 := by omega
  have hb : b % 2 = 0 ∨ b % 2 = 1 := by omega
  rw [← h1]
  generalize a &&& b = W at h2 ⊢
  clear h1
  rcases ha with ha | ha <;> rcases hb with hb | hb <;> rw [ha, hb] at h2 ⊢ <;> omega
theorem nat_or (a b : Nat) : a ||| b = 2 * (a / 2 ||| b / 2) + (a % 2 + b % 2 - (a % 2) * (b % 2)) := by
  have h1 := @Nat.or_div_two a b
  have h2 := @Nat.or_mod_two_eq_one a b
  have ha : a % 2 = 0 ∨ a % 2 = 1 := by omega
  have hb : b % 2 = 0 ∨ b % 2 = 1 := by omega
  rw [← h1]
  generalize a ||| b = W at h2 ⊢
  clear h1
  rcases ha with ha | ha <;> rcases hb with hb | hb <;> rw [ha, hb] at h2 ⊢ <;> omega
theorem not_half (x : Int) : bitNot x / 2 = bitNot (x / 2) ∧ bitNot x % 2 = 1 - x % 2 := by
  unfold bitNot
  omega
theorem and_pp {x y : Int} (hx : 0 ≤ x) (hy : 0 ≤ y) : bitAnd x y = ((x.toNat &&& y.toNat : Nat) : Int) := by
  unfold bitAnd
  rw [decide_eq_true hx, decide_eq_true hy]
theorem and_pn {x y : Int} (hx : 0 ≤ x) (hy : y < 0) : bitAnd x y = x - ((x.toNat &&& (bitNot y).toNat : Nat) : Int) := by
  unfold bitAnd
  rw [decide_eq_true hx, decide_eq_false (by omega)]
theorem and_np {x y : Int} (hx : x < 0) (hy : 0 ≤ y) : bitAnd x y = y - ((y.toNat &&& (bitNot x).toNat : Nat) : Int) := by
  unfold bitAnd
  rw [decide_eq_false (by omega), decide_eq_true hy]
theorem and_nn {x y : Int} (hx : x < 0) (hy : y < 0) : bitAnd x y = bitNot (((bitNot x).toNat ||| (bitNot y).toNat : Nat) : Int) := by
  unfold bitAnd
  rw [decide_eq_false (by omega), decide_eq_false (by omega)]
theorem bit01 (x : Int) : x % 2 = 0 ∨ x % 2 = 1 := by omega
theorem nbit01 (x : Nat) : x % 2 = 0 ∨ x % 2 = 1 := by omega
theorem and_half (x y : Int) : bitAnd x y = 2 * bitAnd (x / 2) (y / 2) + (x % 2) * (y % 2) := by
  by_cases hx : 0 ≤ x <;> by_cases hy : 0 ≤ y
  · rw [and_pp hx hy, and_pp (x := x / 2) (y := y / 2) (by omega) (by omega), nat_and]
    have e1 : x.toNat / 2 = (x / 2).toNat := by omega
    have e2 : y.toNat / 2 = (y / 2).toNat := by omega
    rw [e1, e2]
    rcases bit01 x with h1 | h1 <;> rcases bit01 y with h2 | h2 <;> rw [h1, h2]
    all_goals
      have q1 : x.toNat % 2 = (x % 2).toNat := by omega
      have q2 : y.toNat % 2 = (y % 2).toNat := by omega
      rw [q1, q2, h1, h2]
      simp
  · have hy' : y < 0 := by omega
    rw [and_pn hx hy', and_pn (x := x / 2) (y := y / 2) (by omega) (by omega), nat_and]
    have n := not_half y
    have e1 : x.toNat / 2 = (x / 2).toNat := by omega
    have e2 : (bitNot y).toNat / 2 = (bitNot (y / 2)).toNat := by
      rw [← n.1]
      omega
    rw [e1, e2]
    have q1 : x.toNat % 2 = (x % 2).toNat := by omega
    have q2 : (bitNot y).toNat % 2 = (1 - y % 2).toNat := by
      have : 0 ≤ bitNot y := by unfold bitNot; omega
      omega
    rw [q1, q2]
    generalize ((x / 2).toNat &&& (bitNot (y / 2)).toNat) = W
    rcases bit01 x with h1 | h1 <;> rcases bit01 y with h2 | h2 <;> rw [h1, h2] <;> simp <;> omega
  · have hx' : x < 0 := by omega
    rw [and_np hx' hy, and_np (x := x / 2) (y := y / 2) (by omega) (by omega), nat_and]
    have n := not_half x
    have e1 : y.toNat / 2 = (y / 2).toNat := by omega
    have e2 : (bitNot x).toNat / 2 = (bitNot (x / 2)).toNat := by
      rw [← n.1]
      omega
    rw [e1, e2]
    have q1 : y.toNat % 2 = (y % 2).toNat := by omega
    have q2 : (bitNot x).toNat % 2 = (1 - x % 2).toNat := by
      have : 0 ≤ bitNot x := by unfold bitNot; omega
      omega
    rw [q1, q2]
    generalize ((y / 2).toNat &&& (bitNot (x / 2)).toNat) = W
    rcases bit01 x with h1 | h1 <;> rcases bit01 y with h2 | h2 <;> rw [h1, h2] <;> simp <;> omega
  · have hx' : x < 0 := by omega
    have hy' : y < 0 := by omega
    rw [and_nn hx' hy', and_nn (x := x / 2) (y := y / 2) (by omega) (by omega), nat_or]
    have n1 := not_half x
    have n2 := not_half y
    have e1 : (bitNot x).toNat / 2 = (bitNot (x / 2)).toNat := by
      rw [← n1.1]
      omega
    have e2 : (bitNot y).toNat / 2 = (bitNot (y / 2)).toNat := by
      rw [← n2.1]
      omega
    rw [e1, e2]
    have q1 : (bitNot x).toNat % 2 = (1 - x % 2).toNat := by
      have : 0 ≤ bitNot x := by unfold bitNot; omega
      omega
    have q2 : (bitNot y).toNat % 2 = (1 - y % 2).toNat := by
      have : 0 ≤ bitNot y := by unfold bitNot; omega
      omega
    rw [q1, q2]
    generalize ((bitNot (x / 2)).toNat ||| (bitNot (y / 2)).toNat) = W
    unfold bitNot
    rcases bit01 x with h1 | h1 <;> rcases bit01 y with h2 | h2 <;> rw [h1, h2] <;> simp <;> omega
theorem or_half (x y : Int) : bitOr x y = 2 * bitOr (x / 2) (y / 2) + (x % 2 + y % 2 - (x % 2) * (y % 2)) := by
  unfold bitOr
  have h := and_half (bitNot x) (bitNot y)
  have n1 := not_half x
  have n2 := not_half y
  rw [n1.1, n2.1, n1.2, n2.2] at h
  rw [h]
  generalize bitAnd (bitNot (x / 2)) (bitNot (y / 2)) = W
  unfold bitNot
  rcases bit01 x with h1 | h1 <;> rcases bit01 y with h2 | h2 <;> rw [h1, h2] <;> omega
theorem xor_half (x y : Int) : bitXor x y = 2 * bitXor (x / 2) (y / 2) + (x + y) % 2 := by
  unfold bitXor
  rw [and_half x y, or_half x y]
  generalize bitAnd (x / 2) (y / 2) = W
  generalize bitOr (x / 2) (y / 2) = Z
  rcases bit01 x with h1 | h1 <;> rcases bit01 y with h2 | h2 <;> rw [h1, h2] <;> omega
theorem xor_div (x y : Int) : bitXor x y / 2 = bitXor (x / 2) (y / 2) := by
  have := xor_half x y
  omega
theorem xor_mod (x y : Int) : bitXor x y % 2 = (x + y) % 2 := by
  have := xor_half x y
  omega
theorem and_div (x y : Int) : bitAnd x y / 2 = bitAnd (x / 2) (y / 2) := by
  have := and_half x y
  rcases bit01 x with h1 | h1 <;> rcases bit01 y with h2 | h2 <;> rw [h1, h2] at this <;> omega
theorem and_mod (x y : Int) : bitAnd x y % 2 = (x % 2) * (y % 2) := by
  have := and_half x y
  rcases bit01 x with h1 | h1 <;> rcases bit01 y with h2 | h2 <;> rw [h1, h2] at this ⊢ <;> omega
theorem and_bounds {x y : Int} (hy : 0 ≤ y) : 0 ≤ bitAnd x y ∧ bitAnd x y ≤ y := by
  by_cases hx : 0 ≤ x
  · rw [and_pp hx hy]
    have := @Nat.and_le_right x.toNat y.toNat
    omega
  · rw [and_np (by omega) hy]
    have := @Nat.and_le_left y.toNat (bitNot x).toNat
    omega
/-- two numbers on one side of nought -/
theorem xor_same {x y : Int} {N : Nat} (h : (0 ≤ x ∧ 0 ≤ y ∧ x < 2 ^ N ∧ y < 2 ^ N) ∨ (x < 0 ∧ y < 0 ∧ -(2 ^ N) ≤ x ∧ -(2 ^ N) ≤ y)) : 0 ≤ bitXor x y ∧ bitXor x y < 2 ^ N := by
  have key : ∀ a b : Nat, a < 2 ^ N → b < 2 ^ N → (0 : Int) ≤ ((a ||| b : Nat) : Int) - ((a &&& b : Nat) : Int) ∧ ((a ||| b : Nat) : Int) - ((a &&& b : Nat) : Int) < 2 ^ N := fun a b ha hb => by
    have h1 := Nat.or_lt_two_pow ha hb
    have h2 : a &&& b ≤ a := Nat.and_le_left
    have h3 : a ≤ a ||| b := Nat.left_le_or
    have h4 : ((a ||| b : Nat) : Int) < ((2 ^ N : Nat) : Int) := Int.ofNat_lt.mpr h1
    rw [Int.natCast_pow] at h4
    constructor
    · omega
    · have : ((2 : Nat) : Int) ^ N = (2 : Int) ^ N := rfl
      omega
  have nn : ∀ z : Int, bitNot (bitNot z) = z := fun z => by unfold bitNot; omega
  have c2 : ((2 ^ N : Nat) : Int) = (2 : Int) ^ N := Int.natCast_pow 2 N
  rcases h with ⟨hx, hy, bx, by'⟩ | ⟨hx, hy, bx, by'⟩
  · have e : bitXor x y = ((x.toNat ||| y.toNat : Nat) : Int) - ((x.toNat &&& y.toNat : Nat) : Int) := by
      unfold bitXor
      unfold bitOr
      rw [and_pp hx hy, and_nn (x := bitNot x) (y := bitNot y) (by unfold bitNot; omega) (by unfold bitNot; omega), nn, nn, nn]
    rw [e]
    exact key _ _ (by omega) (by omega)
  · have e : bitXor x y = (((bitNot x).toNat ||| (bitNot y).toNat : Nat) : Int) - (((bitNot x).toNat &&& (bitNot y).toNat : Nat) : Int) := by
      unfold bitXor
      unfold bitOr
      rw [and_nn hx hy, and_pp (x := bitNot x) (y := bitNot y) (by unfold bitNot; omega) (by unfold bitNot; omega)]
      generalize ((bitNot x).toNat ||| (bitNot y).toNat) = A
      generalize ((bitNot x).toNat &&& (bitNot y).toNat) = B
      unfold bitNot
      omega
    rw [e]
    have b1 : (bitNot x).toNat < 2 ^ N := by
      have : bitNot x < 2 ^ N := by unfold bitNot; omega
      omega
    have b2 : (bitNot y).toNat < 2 ^ N := by
      have : bitNot y < 2 ^ N := by unfold bitNot; omega
      omega
    exact key _ _ b1 b2
theorem xor_zero : ∀ (k : Nat) (x y : Int), x.natAbs + y.natAbs ≤ k → bitXor x y = 0 → x = y
  | 0, x, y, hk, h => by omega
  | k + 1, x, y, hk, h => by
    have h1 := xor_half x y
    rw [h] at h1
    have h2 : bitXor (x / 2) (y / 2) = 0 := by omega
    have h3 : (x + y) % 2 = 0 := by omega
    by_cases hs : (x = 0 ∨ x = -1) ∧ (y = 0 ∨ y = -1)
    · obtain ⟨a | a, b | b⟩ := hs <;> subst a <;> subst b
      · rfl
      · exact absurd h3 (by decide)
      · exact absurd h3 (by decide)
      · rfl
    · have := xor_zero k (x / 2) (y / 2) (by omega) h2
      omega
/-! ### the figures of two numbers' difference -/
def dig : Nat → Int → Int → List Int
  | 0, _, _ => []
  | L + 1, u, v => (u % 2 - v % 2) :: dig L (u / 2) (v / 2)
theorem dig_len : ∀ (L : Nat) (u v : Int), (dig L u v).length = L
  | 0, _, _ => rfl
  | L + 1, u, v => by
    show (dig L (u / 2) (v / 2)).length + 1 = L + 1
    rw [dig_len L]
theorem dig_fig : ∀ (L : Nat) (u v : Int), ∀ n ∈ dig L u v, -1 ≤ n ∧ n ≤ 1
  | 0, _, _, n, h => nomatch h
  | L + 1, u, v, n, h => by
    rcases List.mem_cons.mp h with e | e
    · omega
    · exact dig_fig L (u / 2) (v / 2) n e
theorem dig_val : ∀ (L : Nat) (u v : Int), 0 ≤ bitXor u v → bitXor u v < 2 ^ L → val (dig L u v) = u - v
  | 0, u, v, h0, h1 => by
    have : bitXor u v = 0 := by
      have e : (2 : Int) ^ 0 = 1 := rfl
      omega
    have := xor_zero _ u v (Nat.le_refl _) this
    show (0 : Int) = u - v
    omega
  | L + 1, u, v, h0, h1 => by
    have hx := xor_div u v
    have ih := dig_val L (u / 2) (v / 2) (by omega) (by rw [Int.pow_succ] at h1; omega)
    show (u % 2 - v % 2) + 2 * val (dig L (u / 2) (v / 2)) = u - v
    rw [ih]
    omega
theorem dig_last : ∀ (L : Nat) (u v : Int), 2 ^ L ≤ bitXor u v → bitXor u v < 2 ^ (L + 1) → (dig (L + 1) u v).getLast? ≠ some 0
  | 0, u, v, h0, h1 => by
    have e : bitXor u v = 1 := by
      have e0 : (2 : Int) ^ 0 = 1 := rfl
      have e1 : (2 : Int) ^ 1 = 2 := rfl
      omega
    have := xor_mod u v
    rw [e] at this
    show ([u % 2 - v % 2] : List Int).getLast? ≠ some 0
    simp
    omega
  | L + 1, u, v, h0, h1 => by
    have hx := xor_div u v
    have ih := dig_last L (u / 2) (v / 2) (by rw [Int.pow_succ] at h0; omega) (by rw [Int.pow_succ] at h1; omega)
    show ((u % 2 - v % 2) :: dig (L + 1) (u / 2) (v / 2)).getLast? ≠ some 0
    have e : dig (L + 1) (u / 2) (v / 2) = (u / 2 % 2 - v / 2 % 2) :: dig L (u / 2 / 2) (v / 2 / 2) := rfl
    rw [e, List.getLast?_cons_cons, ← e]
    exact ih
end FG

set_option maxHeartbeats 4000000
namespace FG
open PySem PyProof.Rows L2
open PySem.Builtin (bitAnd bitOr bitXor bitNot)
theorem gaps_cons {x : Int} {l : List Int} (h1 : x = 0 ∨ l.head? = some 0 ∨ l = []) (h2 : gaps l = true) : gaps (x :: l) = true := by
  match l, h1, h2 with
  | [], _, _ => rfl
  | y :: r, h1, h2 =>
    show ((decide (x = 0) || decide (y = 0)) && gaps (y :: r)) = true
    rw [h2]
    rcases h1 with h | h | h
    · simp [h]
    · simp at h
      simp [h]
    · exact nomatch h
theorem dig_gaps : ∀ (L : Nat) (u v e : Int), u = 3 * v + e → 0 ≤ e → e ≤ 2 → gaps (dig L u v) = true ∧ (e ≠ 1 → (dig L u v).head? = some 0 ∨ dig L u v = [])
  | 0, _, _, _, _, _, _ => ⟨rfl, fun _ => .inr rfl⟩
  | L + 1, u, v, e, he, h0, h2 => by
    have ih := dig_gaps L (u / 2) (v / 2) ((3 * (v % 2) + e) / 2) (by omega) (by omega) (by omega)
    constructor
    · show gaps ((u % 2 - v % 2) :: dig L (u / 2) (v / 2)) = true
      refine gaps_cons ?_ ih.1
      by_cases h1 : e = 1
      · exact .inr (ih.2 (by omega))
      · exact .inl (by omega)
    · intro h1
      refine .inl ?_
      show some (u % 2 - v % 2) = some 0
      congr 1
      omega
/-! ### a lean row is the only one of its worth -/
theorem val_ne : ∀ r : List Int, (∀ n ∈ r, -1 ≤ n ∧ n ≤ 1) → r.getLast? ≠ some 0 → r ≠ [] → val r ≠ 0
  | [], _, _, h => absurd rfl h
  | [d], _, h, _ => by
    show d + 2 * 0 ≠ 0
    have : d ≠ 0 := fun e => h (by rw [e]; rfl)
    omega
  | d :: x :: t, hb, h, _ => by
    have ih := val_ne (x :: t) (fun n hn => hb n (List.mem_cons_of_mem _ hn)) (by rw [List.getLast?_cons_cons] at h; exact h) (by simp)
    have hd := hb d List.mem_cons_self
    show d + 2 * val (x :: t) ≠ 0
    omega
theorem gaps_tail {x : Int} {l : List Int} (h : gaps (x :: l) = true) : gaps l = true := by
  match l, h with
  | [], _ => rfl
  | y :: r, h =>
    have h' : ((decide (x = 0) || decide (y = 0)) && gaps (y :: r)) = true := h
    exact (Bool.and_eq_true_iff.mp h').2
theorem row_tail {x : Int} {l : List Int} (r : Row (x :: l)) : Row l := by
  refine ⟨fun n hn => r.1 n (List.mem_cons_of_mem _ hn), ?_⟩
  match l, r with
  | [], _ => exact fun z => nomatch z
  | y :: t, r =>
    have := r.2
    rw [List.getLast?_cons_cons] at this
    exact this
theorem odd_next {x : Int} {l : List Int} (h : gaps (x :: l) = true) (hx : x ≠ 0) : val l % 2 = 0 := by
  match l, h with
  | [], _ => rfl
  | y :: r, h =>
    have h' : ((decide (x = 0) || decide (y = 0)) && gaps (y :: r)) = true := h
    have h1 := (Bool.and_eq_true_iff.mp h').1
    have hy : y = 0 := by simpa [hx] using h1
    show (y + 2 * val r) % 2 = 0
    omega
theorem lean_only : ∀ (r t : List Int), Row r → Row t → gaps r = true → gaps t = true → val r = val t → r = t
  | [], [], _, _, _, _, _ => rfl
  | [], y :: t, _, ht, _, _, e => absurd e.symm (val_ne (y :: t) ht.1 ht.2 (by simp))
  | x :: r, [], hr, _, _, _, e => absurd e (val_ne (x :: r) hr.1 hr.2 (by simp))
  | x :: r, y :: t, hr, ht, gr, gt, e => by
    have hx := hr.1 x List.mem_cons_self
    have hy := ht.1 y List.mem_cons_self
    have e' : x + 2 * val r = y + 2 * val t := e
    have same : x = y := by
      by_cases x0 : x = 0
      · omega
      · by_cases y0 : y = 0
        · omega
        · have o1 := odd_next gr x0
          have o2 := odd_next gt y0
          omega
    subst same
    have ih := lean_only r t (row_tail hr) (row_tail ht) (gaps_tail gr) (gaps_tail gt) (by omega)
    rw [ih]
/-! ### the places of a number as a text -/
def bitsLE : Nat → Nat → List Nat
  | 0, _ => []
  | L + 1, x => (x % 2 + 48) :: bitsLE L (x / 2)
theorem bitsLE_len : ∀ (L x : Nat), (bitsLE L x).length = L
  | 0, _ => rfl
  | L + 1, x => congrArg (· + 1) (bitsLE_len L (x / 2))
theorem bitsLE_zero : ∀ L : Nat, bitsLE L 0 = List.replicate L 48
  | 0 => rfl
  | L + 1 => by
    show (0 % 2 + 48) :: bitsLE L (0 / 2) = _
    rw [Nat.zero_div, bitsLE_zero L]
    rfl
def digs (x : Nat) : List Nat := ((Nat.toDigits 2 x).map Char.toNat).reverse
theorem digs_small {x : Nat} (h : x < 2) : digs x = [x + 48] := by
  unfold digs
  rw [Nat.toDigits_of_lt_base h]
  have c : x = 0 ∨ x = 1 := by omega
  rcases c with e | e <;> subst e <;> rfl
theorem digs_step {x : Nat} (h : 2 ≤ x) : digs x = (x % 2 + 48) :: digs (x / 2) := by
  have e := @Nat.toDigits_append_toDigits 2 (x / 2) (x % 2) (by decide) (by omega) (by omega)
  have e2 : 2 * (x / 2) + x % 2 = x := by omega
  rw [e2] at e
  have e3 := digs_small (x := x % 2) (by omega)
  unfold digs at e3 ⊢
  rw [← e, List.map_append, List.reverse_append, e3]
  rfl
theorem digs_bits : ∀ (L x : Nat), x < 2 ^ (L + 1) → (digs x).length ≤ L + 1 ∧ digs x ++ List.replicate (L + 1 - (digs x).length) 48 = bitsLE (L + 1) x
  | 0, x, h => by
    have hx : x < 2 := by simpa using h
    rw [digs_small hx]
    refine ⟨Nat.le_refl _, ?_⟩
    show [x + 48] ++ [] = [x % 2 + 48]
    rw [List.append_nil, Nat.mod_eq_of_lt hx]
  | L + 1, x, h => by
    by_cases hx : x < 2
    · rw [digs_small hx]
      refine ⟨by simp, ?_⟩
      show (x + 48) :: List.replicate (L + 1 + 1 - 1) 48 = (x % 2 + 48) :: bitsLE (L + 1) (x / 2)
      have e : x / 2 = 0 := by omega
      rw [e, bitsLE_zero, Nat.mod_eq_of_lt hx]
      rfl
    · have h2 : 2 ≤ x := by omega
      have ih := digs_bits L (x / 2) (by rw [Nat.pow_succ] at h; omega)
      rw [digs_step h2]
      refine ⟨by simp only [List.length_cons]; omega, ?_⟩
      show (x % 2 + 48) :: (digs (x / 2) ++ List.replicate (L + 1 + 1 - ((digs (x / 2)).length + 1)) 48) = (x % 2 + 48) :: bitsLE (L + 1) (x / 2)
      have e : L + 1 + 1 - ((digs (x / 2)).length + 1) = L + 1 - (digs (x / 2)).length := by omega
      rw [e, ih.2]
theorem binText_list (x : Nat) : (XB.binText (x : Int)).cps.toList = (digs x).reverse := by
  unfold XB.binText XB.binSigns digs
  have h : decide (((x : Nat) : Int) < 0) = false := decide_eq_false (by omega)
  rw [h]
  simp
theorem binText_len (x : Nat) : (XB.binText (x : Int)).length = (digs x).length := by
  have := congrArg List.length (binText_list x)
  rw [Array.length_toList, List.length_reverse] at this
  exact this
theorem digs_head (x : Nat) : ∀ c ∈ digs x, c = 48 ∨ c = 49 := by
  induction x using Nat.strongRecOn with
  | _ x ih =>
    intro c hc
    by_cases hx : x < 2
    · rw [digs_small hx] at hc
      have := List.mem_singleton.mp hc
      omega
    · rw [digs_step (by omega)] at hc
      rcases List.mem_cons.mp hc with e | e
      · omega
      · exact ih (x / 2) (by omega) c e
/-- filled up with 0 and turned round: the places, the lowest first -/
theorem filled {L x : Nat} (h : x < 2 ^ (L + 1)) : (Txt.zfill (XB.binText (x : Int)) ((L + 1 : Nat) : Int)).cps.toList.reverse = bitsLE (L + 1) x := by
  obtain ⟨h1, h2⟩ := digs_bits L x h
  have el := binText_len x
  unfold Txt.zfill
  by_cases hc : ((L + 1 : Nat) : Int) ≤ ((XB.binText (x : Int)).length : Int)
  · rw [if_pos hc, binText_list, List.reverse_reverse, ← h2]
    have : L + 1 - (digs x).length = 0 := by omega
    rw [this]
    simp
  · rw [if_neg hc]
    have first : ∀ c, (XB.binText (x : Int)).cps[0]? = some c → c = 48 ∨ c = 49 := fun c hc => by
      have : c ∈ (XB.binText (x : Int)).cps.toList := by
        rw [← Array.getElem?_toList] at hc
        exact List.mem_of_getElem? hc
      rw [binText_list] at this
      exact digs_head x c (List.mem_reverse.mp this)
    have eP : zfilled (XB.binText (x : Int)) ((((L + 1 : Nat) : Int)).toNat - (XB.binText (x : Int)).length) = Builtin.Str.padded (XB.binText (x : Int)) ((((L + 1 : Nat) : Int)).toNat - (XB.binText (x : Int)).length) 0 48 := by
      unfold zfilled
      split
      · rename_i e
        have := first _ e
        omega
      · rename_i e
        have := first _ e
        omega
      · rfl
    rw [eP, el, Int.toNat_natCast, ← h2]
    have eq : (Builtin.Str.padded (XB.binText (x : Int)) (L + 1 - (digs x).length) 0 48).cps.toList = List.replicate (L + 1 - (digs x).length) 48 ++ (XB.binText (x : Int)).cps.toList := by
      unfold Builtin.Str.padded
      simp
    rw [eq, List.reverse_append, binText_list, List.reverse_reverse]
    simp
/-- the two texts' figures, one taken from the other -/
theorem bits_dig : ∀ (L : Nat) (u v : Int), 0 ≤ bitXor u v →
    List.zipWith (fun a b : Nat => (a : Int) - (b : Int)) (bitsLE L (bitAnd u (bitXor u v)).toNat) (bitsLE L (bitAnd v (bitXor u v)).toNat) = dig L u v
  | 0, _, _, _ => rfl
  | L + 1, u, v, h => by
    have hx := xor_div u v
    have hm := xor_mod u v
    have ih := bits_dig L (u / 2) (v / 2) (by omega)
    have a1 := and_bounds (x := u) h
    have b1 := and_bounds (x := v) h
    have a2 := and_div u (bitXor u v)
    have b2 := and_div v (bitXor u v)
    have a3 := and_mod u (bitXor u v)
    have b3 := and_mod v (bitXor u v)
    rw [hx] at a2 b2
    rw [hm] at a3 b3
    have e1 : (bitAnd u (bitXor u v)).toNat / 2 = (bitAnd (u / 2) (bitXor (u / 2) (v / 2))).toNat := by omega
    have e2 : (bitAnd v (bitXor u v)).toNat / 2 = (bitAnd (v / 2) (bitXor (u / 2) (v / 2))).toNat := by omega
    show ((((bitAnd u (bitXor u v)).toNat % 2 + 48 : Nat) : Int) - (((bitAnd v (bitXor u v)).toNat % 2 + 48 : Nat) : Int)) :: List.zipWith _ (bitsLE L ((bitAnd u (bitXor u v)).toNat / 2)) (bitsLE L ((bitAnd v (bitXor u v)).toNat / 2)) = (u % 2 - v % 2) :: dig L (u / 2) (v / 2)
    rw [e1, e2, ih]
    congr 1
    have c1 : (((bitAnd u (bitXor u v)).toNat % 2 : Nat) : Int) = bitAnd u (bitXor u v) % 2 := by omega
    have c2 : (((bitAnd v (bitXor u v)).toNat % 2 : Nat) : Int) = bitAnd v (bitXor u v) % 2 := by omega
    have c3 : ((((bitAnd u (bitXor u v)).toNat % 2 + 48 : Nat) : Int) - (((bitAnd v (bitXor u v)).toNat % 2 + 48 : Nat) : Int)) = bitAnd u (bitXor u v) % 2 - bitAnd v (bitXor u v) % 2 := by omega
    rw [c3, a3, b3]
    rcases bit01 u with p | p <;> rcases bit01 v with q | q
    all_goals
      have z : (u + v) % 2 = (u % 2 + v % 2) % 2 := by omega
      rw [z, p, q]
      rfl
theorem bitsLE_get : ∀ (L x i : Nat), i < L → ∃ c, (bitsLE L x)[i]? = some c ∧ (c = 48 ∨ c = 49)
  | 0, _, _, h => absurd h (Nat.not_lt_zero _)
  | L + 1, x, 0, _ => ⟨x % 2 + 48, rfl, by omega⟩
  | L + 1, x, i + 1, h => bitsLE_get L (x / 2) i (by omega)
/-- what lean's numbers are: the parts of three halves -/
theorem lean_facts {n : Int} {N : Nat} (h : n.natAbs < 2 ^ N) : 0 ≤ bitXor (n + n / 2) (n / 2) ∧ bitXor (n + n / 2) (n / 2) < 2 ^ (N + 1) := by
  refine xor_same ?_
  have e : (2 : Int) ^ (N + 1) = 2 * 2 ^ N := by rw [Int.pow_succ, Int.mul_comm]
  have c : ((2 ^ N : Nat) : Int) = (2 : Int) ^ N := Int.natCast_pow 2 N
  rw [e]
  by_cases h0 : 0 ≤ n
  · exact .inl ⟨by omega, by omega, by omega, by omega⟩
  · exact .inr ⟨by omega, by omega, by omega, by omega⟩
/-- the row that lean tells -/
theorem lean_row {n : Int} (hn : n ≠ 0) {N : Nat} (h : n.natAbs < 2 ^ N) :
    ∃ L, Builtin.Int.intBits (bitXor (n + n / 2) (n / 2)) = L + 1 ∧ L + 1 ≤ N + 1 ∧ (bitAnd (n + n / 2) (bitXor (n + n / 2) (n / 2))).toNat < 2 ^ (L + 1) ∧ (bitAnd (n / 2) (bitXor (n + n / 2) (n / 2))).toNat < 2 ^ (L + 1) ∧
      Row (dig (L + 1) (n + n / 2) (n / 2)) ∧ gaps (dig (L + 1) (n + n / 2) (n / 2)) = true ∧ val (dig (L + 1) (n + n / 2) (n / 2)) = n := by
  obtain ⟨x0, x1⟩ := lean_facts h
  have xn : bitXor (n + n / 2) (n / 2) ≠ 0 := fun e => by
    have := xor_zero _ _ _ (Nat.le_refl _) e
    omega
  generalize hX : bitXor (n + n / 2) (n / 2) = X at x0 x1 xn
  have hb : Builtin.Int.intBits X = X.natAbs.log2 + 1 := by
    unfold Builtin.Int.intBits
    rw [if_neg (by simpa using xn)]
  have hx' : X.natAbs ≠ 0 := by omega
  have l1 := Nat.log2_self_le hx'
  have l2 : X.natAbs < 2 ^ (X.natAbs.log2 + 1) := (Nat.log2_lt hx').mp (Nat.lt_succ_self _)
  have l3 : X.natAbs.log2 < N + 1 := by
    refine (Nat.log2_lt hx').mpr ?_
    have c : ((2 ^ (N + 1) : Nat) : Int) = (2 : Int) ^ (N + 1) := Int.natCast_pow 2 (N + 1)
    omega
  generalize X.natAbs.log2 = L at hb l1 l2 l3
  have c1 : ((2 ^ L : Nat) : Int) = (2 : Int) ^ L := Int.natCast_pow 2 L
  have c2 : ((2 ^ (L + 1) : Nat) : Int) = (2 : Int) ^ (L + 1) := Int.natCast_pow 2 (L + 1)
  have a1 := and_bounds (x := n + n / 2) (y := X) x0
  have b1 := and_bounds (x := n / 2) (y := X) x0
  refine ⟨L, hb, by omega, by omega, by omega, ⟨dig_fig _ _ _, ?_⟩, ?_, ?_⟩
  · exact dig_last L _ _ (by rw [hX]; omega) (by rw [hX]; omega)
  · exact (dig_gaps (L + 1) (n + n / 2) (n / 2) (n % 2) (by omega) (by omega) (by omega)).1
  · rw [dig_val (L + 1) _ _ (by rw [hX]; exact x0) (by rw [hX]; omega)]
    omega
end FG

set_option maxHeartbeats 4000000
/-! the two numbers that have the places of a lean row's 1 and -1. -/
namespace XParts
open PySem PyProof.Rows L2 FG
open PySem.Builtin (bitAnd bitOr bitXor bitNot)
theorem none_back {H H' : Hp} {p : Addr} (s : Same H H') (h : H' p = none) : H p = none := by
  cases e : H p with
  | none => rfl
  | some o => exact absurd ((s p o e).symm.trans h) (by simp)
/-! ### the two parts of a difference -/
theorem parts_half (u v : Int) (h : 0 ≤ bitXor u v) : bitAnd u (bitXor u v) / 2 = bitAnd (u / 2) (bitXor (u / 2) (v / 2)) ∧ bitAnd v (bitXor u v) / 2 = bitAnd (v / 2) (bitXor (u / 2) (v / 2)) ∧
    bitAnd u (bitXor u v) % 2 = (u % 2) * ((u + v) % 2) ∧ bitAnd v (bitXor u v) % 2 = (v % 2) * ((u + v) % 2) := by
  have hx := xor_div u v
  have hm := xor_mod u v
  have a2 := and_div u (bitXor u v)
  have b2 := and_div v (bitXor u v)
  have a3 := and_mod u (bitXor u v)
  have b3 := and_mod v (bitXor u v)
  rw [hx] at a2 b2
  rw [hm] at a3 b3
  exact ⟨a2, b2, a3, b3⟩
theorem bits_two (u v : Int) : (u % 2) * ((u + v) % 2) + (v % 2) * ((u + v) % 2) = (u + v) % 2 := by
  have z : (u + v) % 2 = (u % 2 + v % 2) % 2 := by omega
  rw [z]
  rcases bit01 u with p | p <;> rcases bit01 v with q | q <;> rw [p, q] <;> rfl
/-- together they are all places that are unlike -/
theorem parts_sum : ∀ (L : Nat) (u v : Int), 0 ≤ bitXor u v → bitXor u v < 2 ^ L → bitAnd u (bitXor u v) + bitAnd v (bitXor u v) = bitXor u v
  | 0, u, v, h0, h1 => by
    have e : bitXor u v = 0 := by
      have e0 : (2 : Int) ^ 0 = 1 := rfl
      omega
    have a1 := and_bounds (x := u) h0
    have b1 := and_bounds (x := v) h0
    omega
  | L + 1, u, v, h0, h1 => by
    have hx := xor_div u v
    have hm := xor_mod u v
    have ih := parts_sum L (u / 2) (v / 2) (by omega) (by rw [Int.pow_succ] at h1; omega)
    obtain ⟨a, b, c, d⟩ := parts_half u v h0
    have t := bits_two u v
    generalize bitAnd (u / 2) (bitXor (u / 2) (v / 2)) = A at *
    generalize bitAnd (v / 2) (bitXor (u / 2) (v / 2)) = B at *
    generalize (u % 2) * ((u + v) % 2) = C at *
    generalize (v % 2) * ((u + v) % 2) = E at *
    omega
/-- the topmost place is in one of them -/
theorem parts_top : ∀ (L : Nat) (u v : Int), 2 ^ L ≤ bitXor u v → bitXor u v < 2 ^ (L + 1) → 2 ^ L ≤ bitAnd u (bitXor u v) ∨ 2 ^ L ≤ bitAnd v (bitXor u v)
  | 0, u, v, h0, h1 => by
    have e0 : (2 : Int) ^ 0 = 1 := rfl
    have e1 : (2 : Int) ^ 1 = 2 := rfl
    have h := parts_sum 1 u v (by omega) (by omega)
    have a1 := and_bounds (x := u) (y := bitXor u v) (by omega)
    have b1 := and_bounds (x := v) (y := bitXor u v) (by omega)
    omega
  | L + 1, u, v, h0, h1 => by
    have hx := xor_div u v
    have e1 : (2 : Int) ^ (L + 1) = 2 * 2 ^ L := by rw [Int.pow_succ, Int.mul_comm]
    have e2 : (2 : Int) ^ (L + 1 + 1) = 2 * 2 ^ (L + 1) := by rw [Int.pow_succ, Int.mul_comm]
    have p0 : (0 : Int) < 2 ^ L := Int.pow_pos (by omega)
    obtain ⟨a, b, _, _⟩ := parts_half u v (by omega)
    have ih := parts_top L (u / 2) (v / 2) (by omega) (by omega)
    rcases ih with h | h
    · exact .inl (by omega)
    · exact .inr (by omega)
/-- the greater of the two has just so many places -/
theorem bits_top {L : Nat} {x : Int} (h0 : 2 ^ L ≤ x) (h1 : x < 2 ^ (L + 1)) : Builtin.Int.intBits x = L + 1 := by
  have p0 : (0 : Int) < 2 ^ L := Int.pow_pos (by omega)
  have hb : Builtin.Int.intBits x = x.natAbs.log2 + 1 := by
    unfold Builtin.Int.intBits
    rw [if_neg (by simp; omega)]
  have hx' : x.natAbs ≠ 0 := by omega
  have c1 : ((2 ^ L : Nat) : Int) = (2 : Int) ^ L := Int.natCast_pow 2 L
  have c2 : ((2 ^ (L + 1) : Nat) : Int) = (2 : Int) ^ (L + 1) := Int.natCast_pow 2 (L + 1)
  have e : x.natAbs.log2 = L := (Nat.log2_eq_iff hx').mpr ⟨by omega, by omega⟩
  omega
/-- the row that lean tells, its parts and how many places the greater part has -/
theorem parts_row {n : Int} (hn : n ≠ 0) {N : Nat} (h : n.natAbs < 2 ^ N) :
    ∃ L, Builtin.Int.intBits (if bitAnd (n / 2) (bitXor (n + n / 2) (n / 2)) > bitAnd (n + n / 2) (bitXor (n + n / 2) (n / 2)) then bitAnd (n / 2) (bitXor (n + n / 2) (n / 2)) else bitAnd (n + n / 2) (bitXor (n + n / 2) (n / 2))) = L + 1 ∧ L + 1 ≤ N + 1 ∧ (bitAnd (n + n / 2) (bitXor (n + n / 2) (n / 2))).toNat < 2 ^ (L + 1) ∧ (bitAnd (n / 2) (bitXor (n + n / 2) (n / 2))).toNat < 2 ^ (L + 1) ∧
      Row (dig (L + 1) (n + n / 2) (n / 2)) ∧ gaps (dig (L + 1) (n + n / 2) (n / 2)) = true ∧ val (dig (L + 1) (n + n / 2) (n / 2)) = n := by
  obtain ⟨L, hb, hL, ha, hd, rr, rg, rv⟩ := lean_row hn h
  obtain ⟨x0, x1⟩ := lean_facts h
  have xn : bitXor (n + n / 2) (n / 2) ≠ 0 := fun e => by
    have := xor_zero _ _ _ (Nat.le_refl _) e
    omega
  have hb2 : Builtin.Int.intBits (bitXor (n + n / 2) (n / 2)) = (bitXor (n + n / 2) (n / 2)).natAbs.log2 + 1 := by
    unfold Builtin.Int.intBits
    rw [if_neg (by simpa using xn)]
  have hx' : (bitXor (n + n / 2) (n / 2)).natAbs ≠ 0 := by omega
  have l1 := Nat.log2_self_le hx'
  have l2 : (bitXor (n + n / 2) (n / 2)).natAbs < 2 ^ ((bitXor (n + n / 2) (n / 2)).natAbs.log2 + 1) := (Nat.log2_lt hx').mp (Nat.lt_succ_self _)
  have el : (bitXor (n + n / 2) (n / 2)).natAbs.log2 = L := by omega
  rw [el] at l1 l2
  have c1 : ((2 ^ L : Nat) : Int) = (2 : Int) ^ L := Int.natCast_pow 2 L
  have c2 : ((2 ^ (L + 1) : Nat) : Int) = (2 : Int) ^ (L + 1) := Int.natCast_pow 2 (L + 1)
  have tp := parts_top L (n + n / 2) (n / 2) (by omega) (by omega)
  have a1 := and_bounds (x := n + n / 2) x0
  have b1 := and_bounds (x := n / 2) x0
  refine ⟨L, ?_, hL, ha, hd, rr, rg, rv⟩
  split
  · exact bits_top (by omega) (by omega)
  · exact bits_top (by omega) (by omega)
end XParts

set_option maxHeartbeats 4000000
namespace FG
open PySem PyProof.Rows L2
theorem gaps_mid : ∀ (a : List Int) {b : List Int}, gaps a = true → gaps (0 :: b) = true → gaps (a ++ 0 :: b) = true
  | [], _, _, h => h
  | [x], b, _, h => gaps_cons (.inr (.inl rfl)) h
  | x :: y :: r, b, ha, h => by
    have ha' : ((decide (x = 0) || decide (y = 0)) && gaps (y :: r)) = true := ha
    obtain ⟨h1, h2⟩ := Bool.and_eq_true_iff.mp ha'
    have ih := gaps_mid (y :: r) h2 h
    show ((decide (x = 0) || decide (y = 0)) && gaps ((y :: r) ++ 0 :: b)) = true
    rw [h1, ih]
    rfl
/-- rows of 0 alone ahead of a row -/
theorem gaps_zeros : ∀ (g : Nat) {b : List Int}, gaps b = true → gaps (List.replicate g 0 ++ b) = true
  | 0, _, h => h
  | g + 1, b, h => by
    rw [List.replicate_succ, List.cons_append]
    exact gaps_cons (.inl rfl) (gaps_zeros g h)
theorem gaps_left : ∀ (a : List Int) {b : List Int}, gaps (a ++ b) = true → gaps a = true
  | [], _, _ => rfl
  | [x], _, _ => rfl
  | x :: y :: r, b, h => by
    have h' : ((decide (x = 0) || decide (y = 0)) && gaps ((y :: r) ++ b)) = true := h
    obtain ⟨h1, h2⟩ := Bool.and_eq_true_iff.mp h'
    show ((decide (x = 0) || decide (y = 0)) && gaps (y :: r)) = true
    rw [h1, gaps_left (y :: r) h2]
    rfl
theorem gaps_right : ∀ (a : List Int) {b : List Int}, gaps (a ++ b) = true → gaps b = true
  | [], _, h => h
  | x :: r, b, h => gaps_right r (gaps_tail h)
/-- another head in a row's place -/
theorem gaps_swap {a : List Int} {r s : Int} {b : List Int} (h : gaps (a ++ r :: b) = true) (hr : r ≠ 0) : gaps (a ++ s :: b) = true := by
  have hb : b.head? = some 0 ∨ b = [] := by
    have h1 := gaps_right a h
    match b, h1 with
    | [], _ => exact .inr rfl
    | y :: t, h1 =>
      have h' : ((decide (r = 0) || decide (y = 0)) && gaps (y :: t)) = true := h1
      have h2 := (Bool.and_eq_true_iff.mp h').1
      have hy : y = 0 := by simpa [hr] using h2
      exact .inl (by rw [hy]; rfl)
  have hs : gaps (s :: b) = true := by
    refine gaps_cons ?_ (gaps_tail (gaps_right a h))
    rcases hb with h | h
    · exact .inr (.inl h)
    · exact .inr (.inr h)
  -- the figure ahead of r is 0
  induction a with
  | nil => exact hs
  | cons x t ih =>
    have ht := ih (gaps_tail h)
    match t, h, ht with
    | [], h, ht =>
      have h' : ((decide (x = 0) || decide (r = 0)) && gaps (r :: b)) = true := h
      have h2 := (Bool.and_eq_true_iff.mp h').1
      have hx : x = 0 := by simpa [hr] using h2
      exact gaps_cons (.inl hx) ht
    | y :: u, h, ht =>
      have h' : ((decide (x = 0) || decide (y = 0)) && gaps ((y :: u) ++ r :: b)) = true := h
      have h2 := (Bool.and_eq_true_iff.mp h').1
      show ((decide (x = 0) || decide (y = 0)) && gaps ((y :: u) ++ s :: b)) = true
      rw [h2, ht]
      rfl
theorem gaps_behind {r : Int} {b : List Int} (h : gaps (r :: b) = true) (hr : r ≠ 0) : b.head? = some 0 ∨ b = [] := by
  match b, h with
  | [], _ => exact .inr rfl
  | y :: t, h =>
    have h' : ((decide (r = 0) || decide (y = 0)) && gaps (y :: t)) = true := h
    have h2 := (Bool.and_eq_true_iff.mp h').1
    have hy : y = 0 := by simpa [hr] using h2
    exact .inl (by rw [hy]; rfl)
/-- a row's figure moved up by a place -/
theorem gaps_move {a : List Int} {r : Int} {b : List Int} (h : gaps (a ++ r :: b) = true) (hr : r ≠ 0) : gaps (a ++ 0 :: r :: b) = true := by
  have h1 := gaps_right a h
  exact gaps_mid a (gaps_left a h) (gaps_cons (.inl rfl) h1)
/-- the row without the 0 at its end -/
def strip (l : List Int) : List Int := if l.getLast? = some 0 then strip l.dropLast else l
termination_by l.length
decreasing_by
  rename_i h
  cases l with
  | nil => exact nomatch h
  | cons x t => simp
theorem val_snoc0 (l : List Int) : val (l ++ [0]) = val l := by
  rw [val_append]
  show val l + 2 ^ l.length * (0 + 2 * 0) = val l
  simp
theorem last_split {l : List Int} {x : Int} (h : l.getLast? = some x) : l = l.dropLast ++ [x] := by
  cases l with
  | nil => exact nomatch h
  | cons y t =>
    have e := List.getLast?_eq_getLast (List.cons_ne_nil y t)
    rw [e] at h
    have h' := Option.some.inj h
    rw [← h']
    exact (List.dropLast_concat_getLast _).symm
theorem val_abs : ∀ l : List Int, (∀ n ∈ l, -1 ≤ n ∧ n ≤ 1) → (val l).natAbs < 2 ^ l.length
  | [], _ => by decide
  | n :: r, h => by
    have ih := val_abs r fun m hm => h m (List.mem_cons_of_mem _ hm)
    have hn := h n List.mem_cons_self
    show (n + 2 * val r).natAbs < 2 ^ (r.length + 1)
    rw [Nat.pow_succ]
    omega
theorem row_drop1 {l : List Int} (h1 : ∀ n ∈ l, -1 ≤ n ∧ n ≤ 1) (h2 : l.getLast? ≠ some 0) : Row (l.drop 1) := by
  cases l with
  | nil => exact ⟨fun n hn => (nomatch hn), fun z => (nomatch z)⟩
  | cons x t => exact row_tail ⟨h1, h2⟩
theorem ne_neg {A B : List Int} {r : Int} (hr : r = 1 ∨ r = -1) : val (A ++ (0 - r) :: B) ≠ val (A ++ r :: B) := by
  rw [val_append, val_append]
  have p : (0 : Int) < 2 ^ A.length := Int.pow_pos (by decide)
  show val A + 2 ^ A.length * (0 - r + 2 * val B) ≠ val A + 2 ^ A.length * (r + 2 * val B)
  intro e
  have e2 : (2 : Int) ^ A.length * (0 - r + 2 * val B) = 2 ^ A.length * (r + 2 * val B) := by omega
  have e3 := Int.eq_of_mul_eq_mul_left (by omega) e2
  omega
theorem ne_out {A B : List Int} {r : Int} (hr : r = 1 ∨ r = -1) : val (A ++ 0 :: B) ≠ val (A ++ r :: B) := by
  rw [val_append, val_append]
  have p : (0 : Int) < 2 ^ A.length := Int.pow_pos (by decide)
  show val A + 2 ^ A.length * (0 + 2 * val B) ≠ val A + 2 ^ A.length * (r + 2 * val B)
  intro e
  have e2 : (2 : Int) ^ A.length * (0 + 2 * val B) = 2 ^ A.length * (r + 2 * val B) := by omega
  have e3 := Int.eq_of_mul_eq_mul_left (by omega) e2
  omega
theorem ne_move {A B : List Int} {r : Int} (hr : r = 1 ∨ r = -1) : val (A ++ 0 :: r :: B) ≠ val (A ++ r :: B) := by
  rw [val_append, val_append]
  have p : (0 : Int) < 2 ^ A.length := Int.pow_pos (by decide)
  show val A + 2 ^ A.length * (0 + 2 * (r + 2 * val B)) ≠ val A + 2 ^ A.length * (r + 2 * val B)
  intro e
  have e2 : (2 : Int) ^ A.length * (0 + 2 * (r + 2 * val B)) = 2 ^ A.length * (r + 2 * val B) := by omega
  have e3 := Int.eq_of_mul_eq_mul_left (by omega) e2
  omega
theorem rep_zero : ∀ g : Nat, (List.replicate g [V.int 0]).flatten = (List.replicate g (0 : Int)).map V.int
  | 0 => rfl
  | g + 1 => by
    rw [List.replicate_succ, List.flatten_cons, rep_zero g, List.replicate_succ, List.map_cons]
    rfl
/-- slices of rows -/
theorem cut_from (ns : List Int) (k : Nat) : cutV (ns.map V.int) (some (k : Int)) none = (ns.drop k).map V.int := by
  unfold cutV
  rw [HT.sIx_nat, HT.sIx_none, List.map_drop]
  by_cases h : k ≤ (ns.map V.int).length
  · rw [Nat.min_eq_left h]
    apply List.take_of_length_le
    rw [List.length_drop]
    exact Nat.le_refl _
  · have h' : (ns.map V.int).length ≤ k := by omega
    rw [Nat.min_eq_right h', List.drop_eq_nil_of_le h', List.drop_eq_nil_of_le (Nat.le_refl _)]
    simp
theorem cut_to (ns : List Int) (k : Nat) : cutV (ns.map V.int) none (some (k : Int)) = (ns.take k).map V.int := by
  unfold cutV
  rw [HT.sIx_nat, HT.sIx_none, List.map_take]
  show List.take (min k (ns.map V.int).length - 0) (List.drop 0 (ns.map V.int)) = _
  rw [Nat.sub_zero, List.drop_zero]
  by_cases h : k ≤ (ns.map V.int).length
  · rw [Nat.min_eq_left h]
  · have h' : (ns.map V.int).length ≤ k := by omega
    rw [Nat.min_eq_right h', List.take_length, List.take_of_length_le h']
theorem cut_but (ns : List Int) : cutV (ns.map V.int) none (some (-1)) = ns.dropLast.map V.int := by
  have e : HT.sIx (ns.map V.int).length (ns.map V.int).length (some (-1)) = ns.length - 1 := by
    show (if (-1 : Int) < 0 then ((-1 : Int) + ((ns.map V.int).length : Int)).toNat else min (-1 : Int).toNat (ns.map V.int).length) = _
    rw [if_pos (by decide), List.length_map]
    show ((-1 : Int) + (ns.length : Int)).toNat = ns.length - 1
    omega
  unfold cutV
  rw [e, HT.sIx_none]
  show List.take (ns.length - 1 - 0) (List.drop 0 (ns.map V.int)) = _
  rw [Nat.sub_zero, List.drop_zero, ← List.map_take, List.dropLast_eq_take]
theorem drop_last_one {ns : List Int} : (ns.drop (ns.length - 1) = [0]) ↔ ns.getLast? = some 0 := by
  constructor
  · intro e
    rw [List.getLast?_eq_getElem?]
    have z := congrArg (fun l => l[0]?) e
    simp only [List.getElem?_drop] at z
    simpa using z
  · intro e
    have s := last_split e
    rw [s]
    simp
end FG

set_option maxHeartbeats 4000000
namespace FG
open PySem PyProof.Rows L2
/-- the least weight of a number -/
def W (n : Nat) : Nat := if n = 0 then 0 else if n = 1 then 1 else if n % 2 = 0 then W (n / 2) else 1 + min (W (n / 2)) (W (n / 2 + 1))
termination_by n
decreasing_by all_goals omega
theorem W0 : W 0 = 0 := by unfold W; rfl
theorem W1 : W 1 = 1 := by unfold W; rfl
theorem W_even (k : Nat) : W (2 * k) = W k := by
  by_cases h : k = 0
  · subst h
    rfl
  · rw [W, if_neg (by omega), if_neg (by omega), if_pos (by omega)]
    congr 1
    omega
theorem W_odd (k : Nat) : W (2 * k + 1) = 1 + min (W k) (W (k + 1)) := by
  by_cases h : k = 0
  · subst h
    show W 1 = 1 + min (W 0) (W 1)
    rw [W0, W1]
    rfl
  · rw [W, if_neg (by omega), if_neg (by omega), if_neg (by omega)]
    have e : (2 * k + 1) / 2 = k := by omega
    rw [e]
theorem W_near (n : Nat) : W (n + 1) ≤ W n + 1 ∧ W n ≤ W (n + 1) + 1 := by
  induction n using Nat.strongRecOn with
  | _ n ih =>
    rcases Nat.mod_two_eq_zero_or_one n with h | h
    · obtain ⟨k, rfl⟩ : ∃ k, n = 2 * k := ⟨n / 2, by omega⟩
      rw [W_odd, W_even]
      by_cases hk : k = 0
      · subst hk
        rw [W0]
        show 1 + min 0 (W 1) ≤ 0 + 1 ∧ 0 ≤ 1 + min 0 (W 1) + 1
        omega
      · have := ih k (by omega)
        omega
    · obtain ⟨k, rfl⟩ : ∃ k, n = 2 * k + 1 := ⟨n / 2, by omega⟩
      have e : 2 * k + 1 + 1 = 2 * (k + 1) := by omega
      rw [e, W_odd, W_even]
      have := ih k (by omega)
      omega
/-- how many figures are other than 0 -/
def nz : List Int → Nat
  | [] => 0
  | n :: r => (if n = 0 then 0 else 1) + nz r
theorem nz_count : ∀ l : List Int, ((nz l : Nat) : Int) = (l.length : Int) - ((l.count 0 : Nat) : Int)
  | [] => rfl
  | n :: r => by
    have ih := nz_count r
    by_cases h : n = 0
    · subst h
      show (((if (0 : Int) = 0 then 0 else 1) + nz r : Nat) : Int) = _
      rw [if_pos rfl, List.count_cons_self, List.length_cons]
      omega
    · show (((if n = 0 then 0 else 1) + nz r : Nat) : Int) = _
      rw [if_neg h, List.count_cons_of_ne (by simpa using h), List.length_cons]
      omega
/-- no row of a worth has less -/
theorem nz_least : ∀ l : List Int, (∀ n ∈ l, -1 ≤ n ∧ n ≤ 1) → W (val l).natAbs ≤ nz l
  | [], _ => by
    show W 0 ≤ 0
    rw [W0]
    exact Nat.le_refl _
  | n :: r, h => by
    have ih := nz_least r fun m hm => h m (List.mem_cons_of_mem _ hm)
    have hn := h n List.mem_cons_self
    show W (n + 2 * val r).natAbs ≤ (if n = 0 then 0 else 1) + nz r
    by_cases h0 : n = 0
    · subst h0
      have e : (0 + 2 * val r).natAbs = 2 * (val r).natAbs := by omega
      rw [e, W_even, if_pos rfl]
      omega
    · rw [if_neg h0]
      have c : n = 1 ∨ n = -1 := by omega
      generalize val r = v at ih ⊢
      by_cases hv : v = 0
      · subst hv
        have e : (n + 2 * 0).natAbs = 1 := by omega
        rw [e, W1]
        omega
      · have two : (n + 2 * v).natAbs = 2 * v.natAbs + 1 ∨ (n + 2 * v).natAbs = 2 * (v.natAbs - 1) + 1 := by omega
        rcases two with e | e <;> rw [e, W_odd]
        · omega
        · have : v.natAbs - 1 + 1 = v.natAbs := by omega
          rw [this]
          omega
theorem gaps_zero_next {x : Int} {l : List Int} (h : gaps (x :: l) = true) (hx : x ≠ 0) : l = [] ∨ ∃ t, l = 0 :: t := by
  rcases gaps_behind h hx with h | h
  · match l, h with
    | y :: t, h =>
      have : y = 0 := by simpa using h
      exact .inr ⟨t, by rw [this]⟩
  · exact .inl h
/-- a lean row has just that -/
theorem nz_lean : ∀ l : List Int, Row l → gaps l = true → nz l = W (val l).natAbs
  | [], _, _ => by
    show 0 = W 0
    rw [W0]
  | n :: r, hr, hg => by
    have ih := nz_lean r (row_tail hr) (gaps_tail hg)
    have hn := hr.1 n List.mem_cons_self
    show (if n = 0 then 0 else 1) + nz r = W (n + 2 * val r).natAbs
    by_cases h0 : n = 0
    · subst h0
      have e : (0 + 2 * val r).natAbs = 2 * (val r).natAbs := by omega
      rw [e, W_even, if_pos rfl, ih]
      omega
    · rw [if_neg h0, ih]
      have c : n = 1 ∨ n = -1 := by omega
      rcases gaps_zero_next hg h0 with h | ⟨t, h⟩
      · subst h
        show 1 + W 0 = W (n + 2 * 0).natAbs
        have e : (n + 2 * 0).natAbs = 1 := by omega
        rw [e, W0, W1]
      · subst h
        have ev : val (0 :: t) = 0 + 2 * val t := rfl
        rw [ev]
        generalize val t = v
        have e1 : (0 + 2 * v).natAbs = 2 * v.natAbs := by omega
        rw [e1]
        have near := W_near v.natAbs
        by_cases hv : v = 0
        · subst hv
          have e : (n + 2 * (0 + 2 * 0)).natAbs = 1 := by omega
          rw [e, W1]
          show 1 + W (2 * 0) = 1
          rw [W_even, W0]
        · have two : (n + 2 * (0 + 2 * v)).natAbs = 2 * (2 * v.natAbs) + 1 ∨ (n + 2 * (0 + 2 * v)).natAbs = 2 * (2 * (v.natAbs - 1) + 1) + 1 := by omega
          rcases two with e | e
          · rw [e, W_odd, W_even, W_odd]
            omega
          · have near2 := W_near (v.natAbs - 1)
            have q : v.natAbs - 1 + 1 = v.natAbs := by omega
            have q2 : 2 * (v.natAbs - 1) + 1 + 1 = 2 * v.natAbs := by omega
            rw [q] at near2
            rw [e, W_odd, q2, W_even, W_odd, q]
            omega
/-- what is left to be told, with none and with one to carry -/
def rest (p : Nat) (o : Option Nat) (left : Nat) : Nat := match o with
  | none => p + W left
  | some o => min (p + W left) (o + W (left + 1))
theorem rest_even (p : Nat) (o : Option Nat) (k : Nat) : rest (match o.map (· + 1) with | none => p | some l => min p l) (o.map (· + 1)) k = rest p o (2 * k) := by
  cases o with
  | none =>
    show p + W k = p + W (2 * k)
    rw [W_even]
  | some o =>
    show min (min p (o + 1) + W k) (o + 1 + W (k + 1)) = min (p + W (2 * k)) (o + W (2 * k + 1))
    rw [W_even, W_odd]
    omega
theorem rest_odd (p : Nat) (o : Option Nat) (k : Nat) : rest (p + 1) (some (match o with | none => p + 1 | some o => min (p + 1) o)) k = rest p o (2 * k + 1) := by
  have e : 2 * k + 1 + 1 = 2 * (k + 1) := by omega
  cases o with
  | none =>
    show min (p + 1 + W k) (p + 1 + W (k + 1)) = p + W (2 * k + 1)
    rw [W_odd]
    omega
  | some o =>
    show min (p + 1 + W k) (min (p + 1) o + W (k + 1)) = min (p + W (2 * k + 1)) (o + W (2 * k + 1 + 1))
    rw [e, W_even, W_odd]
    omega
theorem rest_end (p : Nat) (o : Option Nat) : (match o with | none => p | some o => min p (o + 1)) = rest p o 0 := by
  cases o with
  | none =>
    show p = p + W 0
    rw [W0]
    rfl
  | some o =>
    show min p (o + 1) = min (p + W 0) (o + W (0 + 1))
    rw [W0]
    show min p (o + 1) = min (p + 0) (o + W 1)
    rw [W1]
    rfl
end FG

/-! What the least deeds cost, as a rule of its own: numbers alone, no program. -/
namespace XDeeds

/-- The least cost of a number (0 and up), by the last doubling of its deeds. -/
def g (D S : Int) (n : Nat) : Int :=
  if _h : n ≤ 1 then n * S
  else if n % 2 = 0 then min (n * S) (g D S (n / 2) + D)
  else min (n * S) (min (g D S (n / 2)) (g D S (n / 2 + 1)) + D + S)
termination_by n
decreasing_by all_goals omega

theorem g_zero (D S : Int) : g D S 0 = 0 := by rw [g]; simp
theorem g_one (D S : Int) : g D S 1 = S := by rw [g]; simp

theorem g_even (D S : Int) (m : Nat) (h : 1 ≤ m) :
    g D S (2 * m) = min (((2 * m : Nat) : Int) * S) (g D S m + D) := by
  rw [g]
  have h1 : ¬ 2 * m ≤ 1 := by omega
  have h2 : 2 * m % 2 = 0 := by omega
  have h3 : 2 * m / 2 = m := by omega
  rw [dif_neg h1, if_pos h2, h3]

theorem g_odd (D S : Int) (m : Nat) (h : 1 ≤ m) :
    g D S (2 * m + 1)
      = min (((2 * m + 1 : Nat) : Int) * S) (min (g D S m) (g D S (m + 1)) + D + S) := by
  rw [g]
  have h1 : ¬ 2 * m + 1 ≤ 1 := by omega
  have h2 : ¬ (2 * m + 1) % 2 = 0 := by omega
  have h3 : (2 * m + 1) / 2 = m := by omega
  rw [dif_neg h1, if_neg h2, h3]

theorem mul_succ' (n : Nat) (S : Int) : ((n + 1 : Nat) : Int) * S = (n : Int) * S + S := by
  rw [Int.natCast_add, Int.add_mul]; simp

theorem g_walk (D S : Int) (n : Nat) : g D S n ≤ n * S := by
  rw [g]
  split
  · exact Int.le_refl _
  · split
    · omega
    · omega

theorem g_nonneg (D S : Int) (hD : 0 ≤ D) (hS : 0 ≤ S) (n : Nat) : 0 ≤ g D S n := by
  induction n using Nat.strongRecOn with
  | ind n ih =>
    have hw : 0 ≤ (n : Int) * S := Int.mul_nonneg (Int.natCast_nonneg _) hS
    rw [g]
    split
    · exact hw
    · split
      · have := ih (n / 2) (by omega)
        omega
      · have := ih (n / 2) (by omega)
        have := ih (n / 2 + 1) (by omega)
        omega

/-- Neighbours are a step apart at most. -/
theorem g_near (D S : Int) (hD : 0 ≤ D) (hS : 0 ≤ S) (n : Nat) :
    g D S (n + 1) ≤ g D S n + S ∧ g D S n ≤ g D S (n + 1) + S := by
  induction n using Nat.strongRecOn with
  | ind n ih =>
    by_cases h0 : n = 0
    · subst h0
      rw [g_zero, g_one]
      omega
    · by_cases hp : n % 2 = 0
      · obtain ⟨m, rfl⟩ : ∃ m, n = 2 * m := ⟨n / 2, by omega⟩
        have hm : 1 ≤ m := by omega
        rw [g_even D S m hm, g_odd D S m hm, mul_succ' (2 * m) S]
        have := ih m (by omega)
        omega
      · obtain ⟨m, rfl⟩ : ∃ m, n = 2 * m + 1 := ⟨n / 2, by omega⟩
        have e : 2 * m + 1 + 1 = 2 * (m + 1) := by omega
        have he := g_even D S (m + 1) (by omega)
        have hw : ((2 * (m + 1) : Nat) : Int) * S = ((2 * m + 1 : Nat) : Int) * S + S := by
          rw [← e]; exact mul_succ' (2 * m + 1) S
        rw [e, he, hw]
        by_cases hm : m = 0
        · subst hm
          have e1 : g D S (2 * 0 + 1) = S := g_one D S
          have e3 : ((2 * 0 + 1 : Nat) : Int) * S = S := by simp
          simp only [e1, e3]
          omega
        · rw [g_odd D S m (by omega)]
          have := ih m (by omega)
          omega

theorem g_double (D S : Int) (hD : 0 ≤ D) (m : Nat) : g D S (2 * m) ≤ g D S m + D := by
  by_cases h : m = 0
  · subst h; rw [show 2 * 0 = 0 from rfl, g_zero]; omega
  · rw [g_even D S m (by omega)]; omega

/-- What a number of either side of nought costs. -/
def G (D S : Int) (n : Int) : Int := g D S n.natAbs

theorem G_neg (D S : Int) (n : Int) : G D S (-n) = G D S n := by simp [G]
theorem G_zero (D S : Int) : G D S 0 = 0 := by simp [G, g_zero]
theorem G_nonneg (D S : Int) (hD : 0 ≤ D) (hS : 0 ≤ S) (n : Int) : 0 ≤ G D S n :=
  g_nonneg D S hD hS _

theorem G_double (D S : Int) (hD : 0 ≤ D) (n : Int) : G D S (2 * n) ≤ G D S n + D := by
  have e : (2 * n).natAbs = 2 * n.natAbs := by omega
  rw [G, e]
  exact g_double D S hD _

theorem G_up (D S : Int) (hD : 0 ≤ D) (hS : 0 ≤ S) (n : Int) :
    G D S (n + 1) ≤ G D S n + S ∧ G D S n ≤ G D S (n + 1) + S := by
  by_cases h : 0 ≤ n
  · have e : (n + 1).natAbs = n.natAbs + 1 := by omega
    rw [G, G, e]
    exact g_near D S hD hS _
  · have e : n.natAbs = (n + 1).natAbs + 1 := by omega
    rw [G, G, e]
    have := g_near D S hD hS (n + 1).natAbs
    exact ⟨this.2, this.1⟩

/-- Where walking is best: half of it is walked for no more than a doubling. -/
theorem g_small (D S : Int) (hS : 0 ≤ S) (n : Nat)
    (h : ((n / 2 : Nat) : Int) * S ≤ D) : g D S n = n * S := by
  induction n using Nat.strongRecOn with
  | ind n ih =>
    by_cases h1 : n ≤ 1
    · rw [g, dif_pos h1]
    · have hle : ∀ a b : Nat, a ≤ b → (a : Int) * S ≤ (b : Int) * S :=
        fun a b q => Int.mul_le_mul_of_nonneg_right (by omega) hS
      by_cases hp : n % 2 = 0
      · obtain ⟨m, rfl⟩ : ∃ m, n = 2 * m := ⟨n / 2, by omega⟩
        have e1 : 2 * m / 2 = m := by omega
        rw [e1] at h
        have q1 := ih m (by omega) (Int.le_trans (hle _ _ (by omega)) h)
        rw [g_even D S m (by omega), q1]
        have e2 : ((2 * m : Nat) : Int) * S = (m : Int) * S + (m : Int) * S := by
          rw [← Int.add_mul]; congr 1; omega
        omega
      · obtain ⟨m, rfl⟩ : ∃ m, n = 2 * m + 1 := ⟨n / 2, by omega⟩
        have e1 : (2 * m + 1) / 2 = m := by omega
        rw [e1] at h
        have q1 := ih m (by omega) (Int.le_trans (hle _ _ (by omega)) h)
        have q2 := ih (m + 1) (by omega) (Int.le_trans (hle _ _ (by omega)) h)
        rw [g_odd D S m (by omega), q1, q2, mul_succ' m S]
        have e2 : ((2 * m + 1 : Nat) : Int) * S = (m : Int) * S + (m : Int) * S + S := by
          rw [mul_succ', ← Int.add_mul]; congr 2; omega
        omega

/-- Where doubling is best: half of it is walked for no less than a doubling. -/
theorem g_even_big (D S : Int) (m : Nat) (hm : 1 ≤ m) (h : D ≤ (m : Int) * S) :
    g D S (2 * m) = g D S m + D := by
  rw [g_even D S m hm]
  have := g_walk D S m
  have e2 : ((2 * m : Nat) : Int) * S = (m : Int) * S + (m : Int) * S := by
    rw [← Int.add_mul]; congr 1; omega
  omega

theorem g_odd_big (D S : Int) (m : Nat) (hm : 1 ≤ m) (h : D ≤ (m : Int) * S) :
    g D S (2 * m + 1) = min (g D S m) (g D S (m + 1)) + D + S := by
  rw [g_odd D S m hm]
  have := g_walk D S m
  have e2 : ((2 * m + 1 : Nat) : Int) * S = (m : Int) * S + (m : Int) * S + S := by
    rw [mul_succ', ← Int.add_mul]; congr 2; omega
  omega

/-- Each number but 0 has one ahead of it, no further out than one more, from which a deed leads to it. -/
theorem g_ahead (D S : Int) (hD : 0 ≤ D) (hS : 0 ≤ S) (n : Nat) (h : 1 ≤ n) :
    (∃ m, n = m + 1 ∧ g D S n = g D S m + S)
    ∨ (∃ m, n = 2 * m ∧ 1 ≤ m ∧ g D S n = g D S m + D)
    ∨ (n % 2 = 1 ∧ 3 ≤ n ∧ g D S n = g D S (n + 1) + S) := by
  obtain ⟨q, rfl⟩ : ∃ q, n = q + 1 := ⟨n - 1, by omega⟩
  have near := g_near D S hD hS q
  have walk : g D S (q + 1) = ((q + 1 : Nat) : Int) * S → g D S (q + 1) = g D S q + S := by
    intro e
    have := g_walk D S q
    have e2 := mul_succ' q S
    omega
  by_cases h1 : q = 0
  · subst h1
    left
    refine ⟨0, rfl, ?_⟩
    have e1 : g D S (0 + 1) = S := g_one D S
    rw [e1, g_zero]; omega
  · by_cases hp : (q + 1) % 2 = 0
    · obtain ⟨m, hm⟩ : ∃ m, q + 1 = 2 * m := ⟨(q + 1) / 2, by omega⟩
      have he := g_even D S m (by omega)
      rw [← hm] at he
      by_cases hc : g D S (q + 1) = ((q + 1 : Nat) : Int) * S
      · exact .inl ⟨q, rfl, walk hc⟩
      · refine .inr (.inl ⟨m, hm, by omega, ?_⟩)
        omega
    · obtain ⟨m, hm⟩ : ∃ m, q = 2 * m := ⟨q / 2, by omega⟩
      have ho := g_odd D S m (by omega)
      rw [← hm] at ho
      have d1 := g_double D S hD m
      rw [← hm] at d1
      have d2 := g_double D S hD (m + 1)
      have e2 : 2 * (m + 1) = q + 1 + 1 := by omega
      rw [e2] at d2
      have near2 := g_near D S hD hS (q + 1)
      by_cases hc : g D S (q + 1) = ((q + 1 : Nat) : Int) * S
      · exact .inl ⟨q, rfl, walk hc⟩
      · by_cases hl : g D S m ≤ g D S (m + 1)
        · left
          exact ⟨q, rfl, by omega⟩
        · right; right
          exact ⟨by omega, by omega, by omega⟩

/-- The same on either side of nought: the number ahead lies no further out than 300, where this one does. -/
theorem G_ahead (D S : Int) (hD : 0 ≤ D) (hS : 0 ≤ S) (n : Int) (h : n ≠ 0)
    (b : -300 ≤ n) (b2 : n ≤ 300) :
    ∃ p, -300 ≤ p ∧ p ≤ 300 ∧
      ((n = 2 * p ∧ G D S n = G D S p + D) ∨ (n = p + 1 ∧ G D S n = G D S p + S)
        ∨ (n = p - 1 ∧ G D S n = G D S p + S)) := by
  have key := g_ahead D S hD hS n.natAbs (by omega)
  have cast : ∀ k : Nat, G D S (k : Int) = g D S k := by intro k; simp [G]
  have castn : ∀ k : Nat, G D S (-(k : Int)) = g D S k := by intro k; simp [G]
  have e0 : G D S n = g D S n.natAbs := rfl
  by_cases hn : 0 ≤ n
  · rcases key with ⟨m, e, c⟩ | ⟨m, e, _, c⟩ | ⟨e, _, c⟩
    · exact ⟨m, by omega, by omega, .inr (.inl ⟨by omega, by rw [e0, cast, c]⟩)⟩
    · exact ⟨m, by omega, by omega, .inl ⟨by omega, by rw [e0, cast, c]⟩⟩
    · exact ⟨(n.natAbs + 1 : Nat), by omega, by omega,
        .inr (.inr ⟨by omega, by rw [e0, cast, c]⟩)⟩
  · rcases key with ⟨m, e, c⟩ | ⟨m, e, _, c⟩ | ⟨e, _, c⟩
    · exact ⟨-(m : Int), by omega, by omega, .inr (.inr ⟨by omega, by rw [e0, castn, c]⟩)⟩
    · exact ⟨-(m : Int), by omega, by omega, .inl ⟨by omega, by rw [e0, castn, c]⟩⟩
    · exact ⟨-((n.natAbs + 1 : Nat) : Int), by omega, by omega,
        .inr (.inl ⟨by omega, by rw [e0, castn, c]⟩)⟩

theorem G_bound (D S : Int) (hS : 0 ≤ S) (s50 : S ≤ 50) (n : Int)
    (b : -300 ≤ n) (b2 : n ≤ 300) : G D S n ≤ 15000 := by
  have h := g_walk D S n.natAbs
  have h2 : ((n.natAbs : Nat) : Int) * S ≤ 300 * 50 :=
    Int.mul_le_mul (by omega) s50 hS (by omega)
  have e0 : G D S n = g D S n.natAbs := rfl
  omega

end XDeeds

set_option maxHeartbeats 4000000
/-! the least of the deeds with so many doublings is the least of all: numbers alone -/
namespace XLeast
open XDeeds FG
/-- what deeds with d doublings cost -/
def f (D S : Int) (n d : Nat) : Int := (d : Int) * D + (((n / 2 ^ d : Nat) : Int) + ((W (n % 2 ^ d) : Nat) : Int)) * S
theorem W_two (d : Nat) : W (2 ^ d) = 1 := by
  induction d with
  | zero => exact W1
  | succ d ih => rw [Nat.pow_succ, Nat.mul_comm, W_even, ih]
variable {D S : Int}
theorem f_zero (n : Nat) : f D S n 0 = n * S := by
  unfold f
  have e1 : n / 2 ^ 0 = n := by rw [Nat.pow_zero, Nat.div_one]
  have e2 : n % 2 ^ 0 = 0 := by rw [Nat.pow_zero, Nat.mod_one]
  rw [e1, e2, W0]
  simp
theorem div_even (m d : Nat) : 2 * m / 2 ^ (d + 1) = m / 2 ^ d := by
  rw [Nat.pow_succ, Nat.mul_comm (2 ^ d) 2, ← Nat.div_div_eq_div_mul]
  congr 1
  omega
theorem div_odd (m d : Nat) : (2 * m + 1) / 2 ^ (d + 1) = m / 2 ^ d := by
  rw [Nat.pow_succ, Nat.mul_comm (2 ^ d) 2, ← Nat.div_div_eq_div_mul]
  congr 1
  omega
theorem mod_of {a b q r : Nat} (h : a = b * q + r) (hr : r < b) : a / b = q ∧ a % b = r := by
  subst h
  have hb : 0 < b := by omega
  constructor
  · rw [Nat.mul_add_div hb, Nat.div_eq_of_lt hr, Nat.add_zero]
  · rw [Nat.mul_add_mod, Nat.mod_eq_of_lt hr]
theorem mod_even (m d : Nat) : 2 * m % 2 ^ (d + 1) = 2 * (m % 2 ^ d) := by
  have h := Nat.div_add_mod m (2 ^ d)
  have l := Nat.mod_lt m (Nat.two_pow_pos d)
  refine (mod_of (q := m / 2 ^ d) ?_ ?_).2
  · rw [Nat.pow_succ, Nat.mul_comm (2 ^ d) 2, Nat.mul_assoc]
    omega
  · rw [Nat.pow_succ]
    omega
theorem mod_odd (m d : Nat) : (2 * m + 1) % 2 ^ (d + 1) = 2 * (m % 2 ^ d) + 1 := by
  have h := Nat.div_add_mod m (2 ^ d)
  have l := Nat.mod_lt m (Nat.two_pow_pos d)
  refine (mod_of (q := m / 2 ^ d) ?_ ?_).2
  · rw [Nat.pow_succ, Nat.mul_comm (2 ^ d) 2, Nat.mul_assoc]
    omega
  · rw [Nat.pow_succ]
    omega
theorem f_even (m d : Nat) : f D S (2 * m) (d + 1) = D + f D S m d := by
  unfold f
  rw [div_even, mod_even, W_even, Int.natCast_add, Int.add_mul]
  simp
  omega
/-- one more, with the same doublings -/
theorem f_next (m d : Nat) : f D S (m + 1) d = (d : Int) * D + (((m / 2 ^ d : Nat) : Int) + ((W (m % 2 ^ d + 1) : Nat) : Int)) * S := by
  have h := Nat.div_add_mod m (2 ^ d)
  have l := Nat.mod_lt m (Nat.two_pow_pos d)
  unfold f
  by_cases e : m % 2 ^ d + 1 < 2 ^ d
  · obtain ⟨a, b⟩ := mod_of (a := m + 1) (b := 2 ^ d) (q := m / 2 ^ d) (r := m % 2 ^ d + 1) (by omega) e
    rw [a, b]
  · have e2 : m % 2 ^ d + 1 = 2 ^ d := by omega
    obtain ⟨a, b⟩ := mod_of (a := m + 1) (b := 2 ^ d) (q := m / 2 ^ d + 1) (r := 0) (by rw [Nat.mul_add, Nat.mul_one]; omega) (Nat.two_pow_pos d)
    rw [a, b, e2, W_two, W0]
    simp
theorem f_odd (hS : 0 ≤ S) (m d : Nat) : f D S (2 * m + 1) (d + 1) = D + S + min (f D S m d) (f D S (m + 1) d) := by
  rw [f_next m d]
  unfold f
  rw [div_odd, mod_odd, W_odd]
  have e1 : ((d + 1 : Nat) : Int) * D = (d : Int) * D + D := mul_succ' d D
  generalize hq : m / 2 ^ d = q
  generalize hr : m % 2 ^ d = r
  rw [e1]
  generalize W r = a
  generalize W (r + 1) = b
  generalize (d : Int) * D = x
  have up : ∀ u v : Nat, u ≤ v → ((q : Int) + (u : Int)) * S ≤ ((q : Int) + (v : Int)) * S := fun u v h => Int.mul_le_mul_of_nonneg_right (by omega) hS
  by_cases h : a ≤ b
  · have e : min a b = a := by omega
    have e3 : ((q : Int) + ((1 + a : Nat) : Int)) * S = ((q : Int) + (a : Int)) * S + S := by
      rw [show (q : Int) + ((1 + a : Nat) : Int) = ((q : Int) + (a : Int)) + 1 by omega, Int.add_mul]
      omega
    have := up a b h
    rw [e, e3]
    omega
  · have e : min a b = b := by omega
    have e3 : ((q : Int) + ((1 + b : Nat) : Int)) * S = ((q : Int) + (b : Int)) * S + S := by
      rw [show (q : Int) + ((1 + b : Nat) : Int) = ((q : Int) + (b : Int)) + 1 by omega, Int.add_mul]
      omega
    have := up b a (by omega)
    rw [e, e3]
    omega
/-- no deeds with so many doublings are below the least -/
theorem f_above (hD : 0 ≤ D) (hS : 0 ≤ S) : ∀ (d n : Nat), g D S n ≤ f D S n d
  | 0, n => by
    rw [f_zero]
    exact g_walk D S n
  | d + 1, n => by
    rcases Nat.mod_two_eq_zero_or_one n with h | h
    · obtain ⟨m, rfl⟩ : ∃ m, n = 2 * m := ⟨n / 2, by omega⟩
      have ih := f_above hD hS d m
      have := g_double D S hD m
      rw [f_even]
      omega
    · obtain ⟨m, rfl⟩ : ∃ m, n = 2 * m + 1 := ⟨n / 2, by omega⟩
      have i1 := f_above hD hS d m
      have i2 := f_above hD hS d (m + 1)
      have z1 := g_nonneg D S hD hS m
      have z2 := g_nonneg D S hD hS (m + 1)
      rw [f_odd hS]
      by_cases hm : m = 0
      · subst hm
        have : g D S (2 * 0 + 1) = S := g_one D S
        omega
      · rw [g_odd D S m (by omega)]
        omega
/-- some number of doublings reaches the least, and not many of them -/
theorem f_some (hD : 0 ≤ D) (hS : 0 ≤ S) : ∀ n : Nat, ∃ d, f D S n d = g D S n ∧ (d = 0 ∨ 2 ^ (d - 1) < n) := by
  intro n
  induction n using Nat.strongRecOn with
  | _ n ih =>
    by_cases h1 : n ≤ 1
    · refine ⟨0, ?_, .inl rfl⟩
      rw [f_zero, g, dif_pos h1]
    · rcases Nat.mod_two_eq_zero_or_one n with h | h
      · obtain ⟨m, rfl⟩ : ∃ m, n = 2 * m := ⟨n / 2, by omega⟩
        obtain ⟨d, e, b⟩ := ih m (by omega)
        have eg := g_even D S m (by omega)
        by_cases hc : ((2 * m : Nat) : Int) * S ≤ g D S m + D
        · refine ⟨0, ?_, .inl rfl⟩
          rw [f_zero]
          omega
        · refine ⟨d + 1, ?_, .inr ?_⟩
          · rw [f_even]
            omega
          · rw [Nat.add_sub_cancel]
            rcases b with b | b
            · subst b
              show 1 < 2 * m
              omega
            · cases d with
              | zero =>
                show 1 < 2 * m
                omega
              | succ d =>
                rw [Nat.add_sub_cancel] at b
                rw [Nat.pow_succ]
                omega
      · obtain ⟨m, rfl⟩ : ∃ m, n = 2 * m + 1 := ⟨n / 2, by omega⟩
        obtain ⟨d1, e1, b1⟩ := ih m (by omega)
        obtain ⟨d2, e2, b2⟩ := ih (m + 1) (by omega)
        have eg := g_odd D S m (by omega)
        by_cases hc : ((2 * m + 1 : Nat) : Int) * S ≤ min (g D S m) (g D S (m + 1)) + D + S
        · refine ⟨0, ?_, .inl rfl⟩
          rw [f_zero]
          omega
        · by_cases hl : g D S m ≤ g D S (m + 1)
          · refine ⟨d1 + 1, ?_, .inr ?_⟩
            · have up := f_above (D := D) (S := S) hD hS d1 (m + 1)
              rw [f_odd hS]
              omega
            · rw [Nat.add_sub_cancel]
              cases d1 with
              | zero =>
                show 1 < 2 * m + 1
                omega
              | succ d =>
                have b : 2 ^ d < m := by
                  rcases b1 with b | b
                  · omega
                  · rwa [Nat.add_sub_cancel] at b
                rw [Nat.pow_succ]
                omega
          · refine ⟨d2 + 1, ?_, .inr ?_⟩
            · have up := f_above (D := D) (S := S) hD hS d2 m
              rw [f_odd hS]
              omega
            · rw [Nat.add_sub_cancel]
              cases d2 with
              | zero =>
                show 1 < 2 * m + 1
                omega
              | succ d =>
                have b : 2 ^ d < m + 1 := by
                  rcases b2 with b | b
                  · omega
                  · rwa [Nat.add_sub_cancel] at b
                rw [Nat.pow_succ]
                omega
/-- where much is left to walk, one doubling more is no dearer -/
theorem f_down (hS : 0 ≤ S) : ∀ (d n : Nat), D ≤ ((n / 2 ^ (d + 1) : Nat) : Int) * S → f D S n (d + 1) ≤ f D S n d
  | 0, n, h => by
    rcases Nat.mod_two_eq_zero_or_one n with e | e
    · obtain ⟨m, rfl⟩ : ∃ m, n = 2 * m := ⟨n / 2, by omega⟩
      rw [f_even, f_zero, f_zero]
      rw [div_even, Nat.pow_zero, Nat.div_one] at h
      have e2 : ((2 * m : Nat) : Int) * S = (m : Int) * S + (m : Int) * S := by
        rw [← Int.add_mul]; congr 1; omega
      omega
    · obtain ⟨m, rfl⟩ : ∃ m, n = 2 * m + 1 := ⟨n / 2, by omega⟩
      rw [f_odd hS, f_zero, f_zero, f_zero]
      rw [div_odd, Nat.pow_zero, Nat.div_one] at h
      have e2 : ((2 * m + 1 : Nat) : Int) * S = (m : Int) * S + (m : Int) * S + S := by
        rw [mul_succ', ← Int.add_mul]; congr 2; omega
      omega
  | d + 1, n, h => by
    rcases Nat.mod_two_eq_zero_or_one n with e | e
    · obtain ⟨m, rfl⟩ : ∃ m, n = 2 * m := ⟨n / 2, by omega⟩
      rw [div_even] at h
      have ih := f_down hS d m h
      rw [f_even, f_even]
      omega
    · obtain ⟨m, rfl⟩ : ∃ m, n = 2 * m + 1 := ⟨n / 2, by omega⟩
      rw [div_odd] at h
      have i1 := f_down hS d m h
      have hm : m / 2 ^ (d + 1) ≤ (m + 1) / 2 ^ (d + 1) := Nat.div_le_div_right (by omega)
      have i2 := f_down hS d (m + 1) (Int.le_trans h (Int.mul_le_mul_of_nonneg_right (by omega) hS))
      rw [f_odd hS, f_odd hS]
      omega
/-- so from any fewest on, where that much is left ahead of it, to the size's places, the least is the least of all -/
theorem f_least (hD : 0 ≤ D) (hS : 0 ≤ S) (n lo L : Nat) (hn : n < 2 ^ L) (hlo : lo ≤ L) (hq : ∀ d, d < lo → D ≤ ((n / 2 ^ (d + 1) : Nat) : Int) * S) :
    ∃ d, lo ≤ d ∧ d ≤ L ∧ f D S n d = g D S n := by
  obtain ⟨d, e, b⟩ := f_some (D := D) (S := S) hD hS n
  have hdL : d ≤ L := by
    rcases b with b | b
    · omega
    · by_cases h : d ≤ L
      · exact h
      · have : 2 ^ L ≤ 2 ^ (d - 1) := Nat.pow_le_pow_right (by omega) (by omega)
        omega
  by_cases h : lo ≤ d
  · exact ⟨d, h, hdL, e⟩
  · refine ⟨lo, Nat.le_refl _, hlo, ?_⟩
    have chain : ∀ k, d + k ≤ lo → f D S n (d + k) ≤ f D S n d := by
      intro k
      induction k with
      | zero => intro _; exact Int.le_refl _
      | succ k ih =>
        intro hk
        exact Int.le_trans (f_down hS (d + k) n (hq _ (by omega))) (ih (by omega))
    have c := chain (lo - d) (by omega)
    rw [show d + (lo - d) = lo by omega] at c
    have := f_above (D := D) (S := S) hD hS lo n
    omega
/-- the fewest that the costs ask: half the number whose half is walked for less than a doubling -/
theorem fewest_ok (hD : 1 ≤ D) (hS : 1 ≤ S) (n L b lo : Nat) (h2 : L = 0 ∨ 2 ^ (L - 1) ≤ n) (hb : (((D - 1) / S).toNat) < 2 ^ b) (hlo : lo ≤ L - 1 - b) :
    ∀ d, d < lo → D ≤ ((n / 2 ^ (d + 1) : Nat) : Int) * S := by
  intro d hd
  have hL : 2 ^ (L - 1) ≤ n := by
    rcases h2 with h | h
    · omega
    · exact h
  have e : 2 ^ b * 2 ^ (d + 1) ≤ n := by
    rw [← Nat.pow_add]
    exact Nat.le_trans (Nat.pow_le_pow_right (by omega) (by omega)) hL
  have q : 2 ^ b ≤ n / 2 ^ (d + 1) := (Nat.le_div_iff_mul_le (Nat.two_pow_pos _)).mpr e
  have q0 : 0 ≤ (D - 1) / S := Int.ediv_nonneg (by omega) (by omega)
  have q1 : (D - 1) / S + 1 ≤ ((n / 2 ^ (d + 1) : Nat) : Int) := by omega
  have m1 := Int.mul_le_mul_of_nonneg_right q1 (show 0 ≤ S by omega)
  have m2 := Int.lt_ediv_add_one_mul_self (D - 1) (show 0 < S by omega)
  omega
end XLeast

set_option maxHeartbeats 4000000
/-! lists and pairs of lists of whole numbers, as data; many rows at many places -/
namespace FG
open PySem PySem.Spec PyProof.Rows L2
theorem dI_depth (ns : List Int) : PyData.depth (dI ns) ≤ 2 := by
  have := dI_depthAll ns
  simp only [dI, PyData.depth]
  omega
theorem dLs_depth : ∀ rs : List (List Int), PyData.depthAll (rs.map dI) ≤ 2
  | [] => by simp [PyData.depthAll]
  | r :: rs => by
    have ih := dLs_depth rs
    have h := dI_depth r
    simp only [List.map_cons, PyData.depthAll]
    omega
theorem dI_lay1 (ns : List Int) : PyData.canLay0 (dI ns) = true := by
  simp only [dI, PyData.canLay0]
  exact dI_lay ns
theorem dLs_lay : ∀ rs : List (List Int), PyData.canLayAll0 (rs.map dI) = true
  | [] => by simp [PyData.canLayAll0]
  | r :: rs => by
    have ih := dLs_lay rs
    simp [PyData.canLayAll0, dI_lay1, ih]
theorem dLs_eqvAll : ∀ rs ts : List (List Int), PyData.eqvAll (rs.map dI) (ts.map dI) = decide (rs = ts)
  | [], [] => by simp [PyData.eqvAll]
  | [], _ :: _ => by simp [PyData.eqvAll]
  | _ :: _, [] => by simp [PyData.eqvAll]
  | r :: rs, t :: ts => by
    have ih := dLs_eqvAll rs ts
    simp only [List.map_cons, PyData.eqvAll, dI_eqv, ih]
    by_cases h1 : r = t
    · by_cases h2 : rs = ts
      · simp [h1, h2]
      · simp [h1, h2]
    · simp [h1]
/-- a list of lists of whole numbers -/
def dL (rs : List (List Int)) : PyData := .list (rs.map dI)
/-- a tuple of them -/
def dT (rs : List (List Int)) : PyData := .tuple (rs.map dI)
theorem dL_shaped (rs : List (List Int)) : SeqAt.shaped (dL rs) = true := by
  have h1 := dLs_depth rs
  have h2 : PyData.depth (dL rs) ≤ 64 := by
    simp only [dL, PyData.depth]
    omega
  unfold SeqAt.shaped
  rw [Bool.and_eq_true]
  exact ⟨by simp only [dL, PyData.canLay0]; exact dLs_lay rs, decide_eq_true h2⟩
theorem dT_shaped (rs : List (List Int)) : SeqAt.shaped (dT rs) = true := by
  have h1 := dLs_depth rs
  have h2 : PyData.depth (dT rs) ≤ 64 := by
    simp only [dT, PyData.depth]
    omega
  unfold SeqAt.shaped
  rw [Bool.and_eq_true]
  exact ⟨by simp only [dT, PyData.canLay0]; exact dLs_lay rs, decide_eq_true h2⟩
theorem dL_eqv (rs ts : List (List Int)) : PyData.eqv (dL rs) (dL ts) = decide (rs = ts) := by
  show PyData.eqvAll _ _ = _
  exact dLs_eqvAll rs ts
theorem dT_eqv (rs ts : List (List Int)) : PyData.eqv (dT rs) (dT ts) = decide (rs = ts) := by
  show PyData.eqvAll _ _ = _
  exact dLs_eqvAll rs ts
/-- lists of whole numbers, one at each place -/
inductive IntsAt (K : PySem.W.Frag) (H : Hp) : List Addr → List (List Int) → Prop
  | nil : IntsAt K H [] []
  | cons {a : Addr} {ns : List Int} {as : List Addr} {rs : List (List Int)} : SqL K H a (ns.map V.int) → IntsAt K H as rs → IntsAt K H (a :: as) (ns :: rs)
section
variable {K : PySem.W.Frag} {H H' : Hp}
theorem IntsAt.mono {as : List Addr} {rs : List (List Int)} (h : IntsAt K H as rs) (s : Same H H') : IntsAt K H' as rs := by
  induction h with
  | nil => exact .nil
  | cons h1 _ ih => exact .cons (s.seq h1) ih
theorem IntsAt.len {as : List Addr} {rs : List (List Int)} (h : IntsAt K H as rs) : as.length = rs.length := by
  induction h with
  | nil => rfl
  | cons _ _ ih => simp [ih]
theorem IntsAt.get {as : List Addr} {rs : List (List Int)} (h : IntsAt K H as rs) : ∀ {i : Nat} {x : V}, (as.map V.ref)[i]? = some x → ∃ a ns, x = .ref a ∧ as[i]? = some a ∧ rs[i]? = some ns ∧ SqL K H a (ns.map V.int) := by
  induction h with
  | nil => exact fun e => nomatch e
  | cons h1 _ ih =>
    intro i x e
    cases i with
    | zero => exact ⟨_, _, (Option.some.inj e).symm, rfl, rfl, h1⟩
    | succ i => exact ih e
theorem IntsAt.snoc {as : List Addr} {rs : List (List Int)} {a : Addr} {ns : List Int} (h : IntsAt K H as rs) (h1 : SqL K H a (ns.map V.int)) : IntsAt K H (as ++ [a]) (rs ++ [ns]) := by
  induction h with
  | nil => exact .cons h1 .nil
  | cons h2 _ ih => exact .cons h2 ih
theorem IntsAt.reverse {as : List Addr} {rs : List (List Int)} (h : IntsAt K H as rs) : IntsAt K H as.reverse rs.reverse := by
  induction h with
  | nil => exact .nil
  | cons h1 _ ih =>
    rw [List.reverse_cons, List.reverse_cons]
    exact ih.snoc h1
theorem IntsAt.take {as : List Addr} {rs : List (List Int)} (h : IntsAt K H as rs) : ∀ i : Nat, IntsAt K H (as.take i) (rs.take i) := by
  induction h with
  | nil => intro i; rw [List.take_nil, List.take_nil]; exact .nil
  | cons h1 _ ih =>
    intro i
    cases i with
    | zero => exact .nil
    | succ i => exact .cons h1 (ih i)
theorem IntsAt.drop {as : List Addr} {rs : List (List Int)} (h : IntsAt K H as rs) : ∀ i : Nat, IntsAt K H (as.drop i) (rs.drop i) := by
  induction h with
  | nil => intro i; rw [List.drop_nil, List.drop_nil]; exact .nil
  | cons h1 h2 ih =>
    intro i
    cases i with
    | zero => exact .cons h1 h2
    | succ i => exact ih i
theorem IntsAt.dp {as : List Addr} {rs : List (List Int)} (h : IntsAt K H as rs) : DpAll K H (as.map V.ref) (rs.map dI) := by
  induction h with
  | nil => exact .nil
  | cons h1 _ ih => exact .cons (dp_ints h1) ih
theorem dp_lists {p : Addr} {as : List Addr} {rs : List (List Int)} (hp : SqL K H p (as.map V.ref)) (h : IntsAt K H as rs) : Dp K H (.ref p) (dL rs) := .lst hp h.dp
theorem dp_tup {p : Addr} {as : List Addr} {rs : List (List Int)} (hp : SqT K H p (as.map V.ref)) (h : IntsAt K H as rs) : Dp K H (.ref p) (dT rs) := .tup hp h.dp
theorem seqT {t : Addr} {xs : List V} (s : Same H H') (h : SqT K H t xs) : SqT K H' t xs := by
  rcases h with h | h
  · rcases h with h | ⟨ob, h⟩
    · exact .inl (.inl (s _ _ h))
    · exact .inl (.inr ⟨ob, s _ _ h⟩)
  · exact .inr h
end
end FG

set_option maxHeartbeats 4000000
/-! what a def that tells a lean row promises; rows that stand as lists of their own -/
namespace FG
open PySem PySem.Spec PyProof.Rows L2
theorem none_same {H H' : Hp} {p : Addr} (s : Same H H') (h : H' p = none) : H p = none := by
  cases e : H p with
  | none => rfl
  | some o => exact absurd ((s p o e).symm.trans h) (by simp)
def LeanTold (H : Hp) (n : Int) (N : Nat) (Q : VK) : Prop :=
  ∀ (H' : Hp) (p : Addr) (r : List Int), Same H H' → H p = none → Row r → gaps r = true → val r = n → r.length ≤ N + 1 → H' p = some (.lst (r.map V.int)) → Q (.ref p) H'
theorem LeanTold.mono {H H1 : Hp} {n : Int} {N : Nat} {Q : VK} (q : LeanTold H n N Q) (s : Same H H1) : LeanTold H1 n N Q :=
  fun H' p r s' np => q H' p r (s.trans s') (none_same s np)
theorem cut_fromV (xs : List V) (k : Nat) : cutV xs (some (k : Int)) none = xs.drop k := by
  unfold cutV
  rw [HT.sIx_nat, HT.sIx_none]
  by_cases h : k ≤ xs.length
  · rw [Nat.min_eq_left h]
    apply List.take_of_length_le
    rw [List.length_drop]
    exact Nat.le_refl _
  · have h' : xs.length ≤ k := by omega
    rw [Nat.min_eq_right h', List.drop_eq_nil_of_le h', List.drop_eq_nil_of_le (Nat.le_refl _)]
    simp
theorem cut_toV (xs : List V) (k : Nat) : cutV xs none (some (k : Int)) = xs.take k := by
  unfold cutV
  rw [HT.sIx_nat, HT.sIx_none]
  show List.take (min k xs.length - 0) (List.drop 0 xs) = _
  rw [Nat.sub_zero, List.drop_zero]
  by_cases h : k ≤ xs.length
  · rw [Nat.min_eq_left h]
  · have h' : xs.length ≤ k := by omega
    rw [Nat.min_eq_right h', List.take_length, List.take_of_length_le h']
/-- lists of whole numbers, each a list of its own -/
inductive Own (H : Hp) : List Addr → List (List Int) → Prop
  | nil : Own H [] []
  | cons {a : Addr} {ns : List Int} {as : List Addr} {rs : List (List Int)} : H a = some (.lst (ns.map V.int)) → Own H as rs → Own H (a :: as) (ns :: rs)
section
variable {K : PySem.W.Frag} {H H' : Hp} {as : List Addr} {rs : List (List Int)}
theorem Own.ints (h : Own H as rs) : IntsAt K H as rs := by
  induction h with
  | nil => exact .nil
  | cons h1 _ ih => exact .cons (SqL.of h1) ih
theorem Own.mono (h : Own H as rs) (s : Same H H') : Own H' as rs := by
  induction h with
  | nil => exact .nil
  | cons h1 _ ih => exact .cons (s _ _ h1) ih
theorem Own.len (h : Own H as rs) : as.length = rs.length := by
  induction h with
  | nil => rfl
  | cons _ _ ih => simp [ih]
theorem Own.snoc {a : Addr} {ns : List Int} (h : Own H as rs) (h1 : H a = some (.lst (ns.map V.int))) : Own H (as ++ [a]) (rs ++ [ns]) := by
  induction h with
  | nil => exact .cons h1 .nil
  | cons h2 _ ih => exact .cons h2 ih
/-- none of them is a place that was free -/
theorem Own.free {x : Addr} (h : Own H as rs) (nx : H x = none) : x ∉ as := by
  induction h with
  | nil => simp
  | cons h1 _ ih =>
    intro m
    rcases List.mem_cons.mp m with e | e
    · subst e
      rw [nx] at h1
      cases h1
    · exact ih e
/-- they stand while all but x stands -/
theorem Own.but {x : Addr} (h : Own H as rs) (nx : x ∉ as) (f : ∀ b o, b ≠ x → H b = some o → H' b = some o) : Own H' as rs := by
  induction h with
  | nil => exact .nil
  | cons h1 _ ih =>
    exact .cons (f _ _ (fun e => nx (by rw [e]; exact List.mem_cons_self)) h1) (ih fun m => nx (List.mem_cons_of_mem _ m))
theorem Own.get (h : Own H as rs) {i : Nat} {ns : List Int} (e : rs[i]? = some ns) : ∃ a, as[i]? = some a ∧ H a = some (.lst (ns.map V.int)) := by
  induction h generalizing i with
  | nil => exact nomatch e
  | cons h1 _ ih =>
    cases i with
    | zero =>
      cases e
      exact ⟨_, rfl, h1⟩
    | succ i => exact ih e
end
section
variable {H H' : Hp} {as : List Addr} {rs : List (List Int)}
theorem Own.keep (h : Own H as rs) (f : ∀ b u, b ∈ as → H b = some u → H' b = some u) : Own H' as rs := by
  induction h with
  | nil => exact .nil
  | cons h1 _ ih => exact .cons (f _ _ List.mem_cons_self h1) (ih fun b u m => f b u (List.mem_cons_of_mem _ m))
theorem Own.there {b : Addr} (h : Own H as rs) (m : b ∈ as) : ∃ u, H b = some u := by
  induction h with
  | nil => exact nomatch m
  | cons h1 _ ih =>
    rcases List.mem_cons.mp m with e | e
    · rw [e]
      exact ⟨_, h1⟩
    · exact ih e
theorem Own.reverse (h : Own H as rs) : Own H as.reverse rs.reverse := by
  induction h with
  | nil => exact .nil
  | cons h1 _ ih =>
    rw [List.reverse_cons, List.reverse_cons]
    exact ih.snoc h1
theorem Own.drop (h : Own H as rs) : ∀ i : Nat, Own H (as.drop i) (rs.drop i) := by
  induction h with
  | nil => intro i; rw [List.drop_nil, List.drop_nil]; exact .nil
  | cons h1 h2 ih =>
    intro i
    cases i with
    | zero => exact .cons h1 h2
    | succ i => exact ih i
theorem Own.take (h : Own H as rs) : ∀ i : Nat, Own H (as.take i) (rs.take i) := by
  induction h with
  | nil => intro i; rw [List.take_nil, List.take_nil]; exact .nil
  | cons h1 _ ih =>
    intro i
    cases i with
    | zero => exact .nil
    | succ i => exact .cons h1 (ih i)
end
theorem upd_but {H : Hp} {x : Addr} {o : HO} : ∀ b u, b ≠ x → H b = some u → upd H x o b = some u := fun b u n e => by
  rw [upd_ne n]
  exact e
/-- the first lists copied, one by one, into a new list at D -/
def Copied (H1 : Hp) (D : Addr) (rs : List (List Int)) (i : Nat) (Hx : Hp) : Prop :=
  ∃ bs, Own Hx bs (rs.take i) ∧ D ∉ bs ∧ Same H1 Hx ∧ Hx D = some (.lst (bs.map V.ref)) ∧ ∀ b ∈ bs, H1 b = none
theorem Copied.start {H1 : Hp} {D : Addr} {rs : List (List Int)} (nD : H1 D = none) : Copied H1 D rs 0 (upd H1 D (.lst [])) :=
  ⟨[], .nil, by simp, same_upd nD, upd_same, fun _ m => nomatch m⟩
theorem Copied.step {H1 Hx : Hp} {D l : Addr} {rs : List (List Int)} {i : Nat} {r : List Int} (c : Copied H1 D rs i Hx) (nD : H1 D = none) (e : rs[i]? = some r) (nl : Hx l = none) :
    ∃ acc, (upd Hx l (.lst (r.map V.int))) D = some (.lst acc) ∧ acc.length ≤ rs.length ∧ Copied H1 D rs (i + 1) (upd (upd Hx l (.lst (r.map V.int))) D (.lst (acc ++ [.ref l]))) := by
  obtain ⟨bs, own, nb, s1, eD, nw⟩ := c
  have s2 : Same Hx (upd Hx l (.lst (r.map V.int))) := same_upd nl
  have lD : l ≠ D := fun z => by rw [z, eD] at nl; cases nl
  refine ⟨bs.map V.ref, s2 _ _ eD, ?_, bs ++ [l], ?_, ?_, fun b u h => ?_, ?_, fun b m => ?_⟩
  · rw [List.length_map, own.len, List.length_take]
    omega
  · rw [List.take_add_one, e]
    refine ((own.mono s2).snoc (a := l) upd_same).but (x := D) ?_ upd_but
    intro m
    rcases List.mem_append.mp m with m | m
    · exact nb m
    · exact lD (List.mem_singleton.mp m).symm
  · intro m
    rcases List.mem_append.mp m with m | m
    · exact nb m
    · exact lD (List.mem_singleton.mp m).symm
  · rw [upd_ne (ne_of_none h nD)]
    exact s2 _ _ (s1 _ _ h)
  · rw [upd_same, List.map_append]
    rfl
  · rcases List.mem_append.mp m with m | m
    · exact nw b m
    · rw [List.mem_singleton.mp m]
      exact none_same s1 nl
theorem Copied.done {H1 Hx : Hp} {D : Addr} {rs : List (List Int)} {m : Nat} (c : Copied H1 D rs m Hx) (e : rs.length ≤ m) :
    ∃ bs, Own Hx bs rs ∧ D ∉ bs ∧ Same H1 Hx ∧ Hx D = some (.lst (bs.map V.ref)) ∧ ∀ b ∈ bs, H1 b = none := by
  obtain ⟨bs, own, h⟩ := c
  rw [List.take_of_length_le e] at own
  exact ⟨bs, own, h⟩
/-- pairs that are held at h: each one of two lists alike -/
def HeldOk (H : Hp) (h : Addr) (hs : List V) : Prop := ∀ x ∈ hs, ∃ (t p o : Addr) (xs : List Int), x = .ref t ∧ t ≠ h ∧ p ≠ h ∧ o ≠ h ∧ H t = some (.tup [.ref p, .ref o]) ∧ H p = some (.lst (xs.map V.int)) ∧ H o = some (.lst (xs.map V.int))
theorem HeldOk.keep {H H' : Hp} {h : Addr} {hs : List V} (k : HeldOk H h hs) (f : ∀ b u, b ≠ h → H b = some u → H' b = some u) : HeldOk H' h hs := fun x hx => by
  obtain ⟨t, p, o, xs, e, a, b, c, d1, d2, d3⟩ := k x hx
  exact ⟨t, p, o, xs, e, a, b, c, f _ _ a d1, f _ _ b d2, f _ _ c d3⟩
theorem HeldOk.snoc {H : Hp} {h t p o : Addr} {hs : List V} {xs : List Int} (k : HeldOk H h hs) (a : t ≠ h) (b : p ≠ h) (c : o ≠ h) (d1 : H t = some (.tup [.ref p, .ref o])) (d2 : H p = some (.lst (xs.map V.int))) (d3 : H o = some (.lst (xs.map V.int))) :
    HeldOk H h (hs ++ [.ref t]) := fun x hx => by
  rcases List.mem_append.mp hx with m | m
  · exact k x m
  · exact ⟨t, p, o, xs, List.mem_singleton.mp m, a, b, c, d1, d2, d3⟩
theorem if_heap {S A P : Hp → Prop} {c : Bool} (go : ∀ Hx, S Hx → P Hx) (hA : ∀ Hx, S Hx → c = true → (∀ Hx, S Hx → P Hx) → A Hx) : ∀ Hx, S Hx → if c = true then A Hx else P Hx := fun z hz => by
  by_cases h : c = true
  · rw [if_pos h]
    exact hA z hz h go
  · rw [if_neg h]
    exact go z hz
theorem if_num {b A P : Int → Prop} {c : Bool} (go : ∀ n, b n → P n) (hA : ∀ z, b z → c = true → (∀ n, b n → P n) → A z) : ∀ z, b z → if c = true then A z else P z := fun z hz => by
  by_cases h : c = true
  · rw [if_pos h]
    exact hA z hz h go
  · rw [if_neg h]
    exact go z hz
theorem sign_small (z : Int) : -(2 ^ 64 : Int) < 1 - 2 * (if decide (z < 0) = true then (1 : Int) else 0) ∧ 1 - 2 * (if decide (z < 0) = true then (1 : Int) else 0) < 2 ^ 64 := by
  split <;> omega
theorem cut_lt {z m : Int} {k : Nat} (h : 0 < m) (hm : m ≤ ((2 ^ k : Nat) : Int)) : ((if z < 0 then -z else z) % m * (1 - 2 * (if decide (z < 0) = true then (1 : Int) else 0))).natAbs < 2 ^ k := by
  have h1 := Int.emod_nonneg (if z < 0 then -z else z) (show m ≠ 0 by omega)
  have h2 := Int.emod_lt_of_pos (if z < 0 then -z else z) h
  generalize (if z < 0 then -z else z) % m = r at h1 h2
  generalize 2 ^ k = P at hm
  split <;> omega
/-- list(xs), as a rule whose reading names the frame alone -/
def rListOf (K : PySem.W.Frag) : List V → Hp → VK → Prop := fun xs H Q => ∃ p ys, xs = [.ref p] ∧ (SqL K H p ys ∨ SqT K H p ys) ∧ ∀ l, H l = none → Q (.ref l) (upd H l (.lst ys))
theorem call_listOf {X : Cx} : CallR X (.type "list") (rListOf X.K) := call_list_of
/-- what numbers are together -/
def total (rs : List (List Int)) : Int := (rs.map val).sum
theorem total_snoc (rs : List (List Int)) (r : List Int) : total (rs ++ [r]) = total rs + val r := by
  unfold total
  simp
theorem total_append (rs ts : List (List Int)) : total (rs ++ ts) = total rs + total ts := by
  unfold total
  rw [List.map_append, List.sum_append_int]
theorem total_rev (rs : List (List Int)) : total rs.reverse = total rs := by
  induction rs with
  | nil => rfl
  | cons r rs ih =>
    rw [List.reverse_cons, total_snoc, ih]
    unfold total
    rw [List.map_cons, List.sum_cons, Int.add_comm]
theorem total_lt {k : Nat} : ∀ {m : Nat} (rs : List (List Int)), (∀ r ∈ rs, (val r).natAbs < 2 ^ k) → rs.length ≤ m → (total rs).natAbs ≤ m * 2 ^ k
  | m, [], _, _ => by
    unfold total
    simp
  | 0, _ :: _, _, h => absurd h (by simp)
  | m + 1, r :: rs, hb, h => by
    have ih := total_lt (m := m) rs (fun q hq => hb q (List.mem_cons_of_mem _ hq)) (by simpa using h)
    have h1 := hb r List.mem_cons_self
    have e : total (r :: rs) = val r + total rs := rfl
    rw [e, Nat.succ_mul]
    omega
end FG

set_option maxHeartbeats 4000000
/-! deeds done one by one; balances of steps joined two by two; a text cut at one sign, its signs counted; xs[::2], xs[1::2] -/
namespace XLed
open PySem PySem.Spec PyProof.Rows PySem.Builtin PySem.Builtin.Str L2 FG
open PySem.StrLaws (ChainG At occ_tight subAt_one)
/-! ### one sign counted -/
theorem count_tail (x : Str) (c : Nat) : ∀ (cuts : List Nat) (a f : Nat), a ≤ x.cps.toList.length → ChainG x ⟨#[c]⟩ x.length a cuts f → (∀ k, f ≤ k → ¬ At x ⟨#[c]⟩ x.length k) →
    cuts.length = (x.cps.toList.drop a).count c
  | [], a, f, _, h, hn => by
    have e : f = a := h
    subst e
    have z : (x.cps.toList.drop f).count c = 0 := by
      rw [List.count_eq_zero]
      intro m
      obtain ⟨j, hj⟩ := List.getElem?_of_mem m
      rw [List.getElem?_drop] at hj
      exact hn (f + j) (by omega) ((subAt_one x c (f + j)).mpr hj)
    rw [z]
    rfl
  | d :: r, a, f, ha, h, hn => by
    obtain ⟨h1, h2, h3, h4⟩ := h
    have hd := (subAt_one x c d).mp h2
    have hlt := (List.getElem?_eq_some_iff.mp hd).1
    have ih := count_tail x c r (d + 1) f (by omega) h4 hn
    have e1 : x.cps.toList.drop a = (x.cps.toList.drop a).take (d - a) ++ x.cps.toList.drop d := by
      have := (List.take_append_drop (d - a) (x.cps.toList.drop a)).symm
      rw [List.drop_drop] at this
      rw [show a + (d - a) = d by omega] at this
      exact this
    have e2 : x.cps.toList.drop d = c :: x.cps.toList.drop (d + 1) := by
      rw [List.drop_eq_getElem_cons hlt]
      rw [List.getElem?_eq_getElem hlt] at hd
      rw [Option.some.inj hd]
    have z : ((x.cps.toList.drop a).take (d - a)).count c = 0 := by
      rw [List.count_eq_zero]
      intro m
      obtain ⟨j, hj⟩ := List.getElem?_of_mem m
      have hj2 : j < d - a := by
        have := (List.getElem?_eq_some_iff.mp hj).1
        rw [List.length_take] at this
        omega
      rw [List.getElem?_take_of_lt hj2, List.getElem?_drop] at hj
      exact h3 (a + j) (by omega) (by omega) ((subAt_one x c (a + j)).mpr hj)
    rw [e1, List.count_append, z, e2, List.count_cons_self, List.length_cons, ih]
    omega
/-- x.count of one sign -/
theorem count_one (x : Str) (c : Nat) : Txt.count x ⟨#[c]⟩ = ((x.cps.toList.count c : Nat) : Int) := by
  obtain ⟨f, g, hn⟩ := occ_tight x ⟨#[c]⟩ (Nat.le_refl 1)
  have h := count_tail x c _ 0 f (Nat.zero_le _) g hn
  rw [List.drop_zero] at h
  show ((_ : Nat) : Int) = _
  rw [h]
/-! ### cut at one sign -/
/-- the parts between the signs s -/
def cutAt (s : Nat) : List Nat → List Nat → List (List Nat)
  | acc, [] => [acc]
  | acc, c :: r => if c = s then acc :: cutAt s [] r else cutAt s (acc ++ [c]) r
theorem spl_cut (s : Nat) : ∀ (l acc : List Nat), TL.spl [s] 0 acc l = cutAt s acc l
  | [], acc => TL.spl_nil _ _ _
  | c :: r, acc => by
    by_cases h : c = s
    · have hp : TL.pre [s] (c :: r) = true := by
        rw [h]
        exact TL.pre_self [s] r
      rw [TL.spl_hit hp]
      show acc :: TL.spl [s] 0 [] r = _
      rw [spl_cut s r []]
      simp [cutAt, h]
    · rw [TL.spl_miss (TL.pre_of_head [] r h), spl_cut s r]
      simp [cutAt, h]
theorem cut_text (x : Str) (s : Nat) (hs : s < 256) : (Txt.split x ⟨#[s]⟩).map TL.tl = cutAt s [] (TL.tl x) := by
  have h := TL.split_spl x ⟨#[s]⟩ (by show [s] ≠ []; simp) (TL.kind_ok (by simp [hs]))
  rw [h]
  exact spl_cut s (TL.tl x) []
/-! ### deeds -/
/-- one deed -/
def deed (n : Int) (c : Nat) : Int := if c = 100 then 2 * n else if c = 117 then n + 1 else n - 1
/-- deeds from n on -/
def going (l : List Nat) (n : Int) : Int := l.foldl deed n
/-- how far a part's steps lead -/
def bal (p : List Nat) : Int := (p.count 117 : Int) - (p.count 119 : Int)
/-- balances with places of D doublings between -/
def hf (D : Nat) (acc : Int) (cs : List Int) : Int := cs.foldl (fun a b => a * 2 ^ D + b) acc
theorem bal_snoc (p : List Nat) (c : Nat) (h : c = 117 ∨ c = 119) : bal (p ++ [c]) = deed (bal p) c := by
  unfold bal deed
  rw [List.count_append, List.count_append]
  rcases h with e | e <;> subst e <;> simp <;> omega
theorem going_cut : ∀ (l acc : List Nat) (n : Int), (∀ c ∈ l, c = 100 ∨ c = 117 ∨ c = 119) → hf 1 n ((cutAt 100 acc l).map bal) = going l (2 * n + bal acc)
  | [], acc, n, _ => by
    show n * 2 ^ 1 + bal acc = 2 * n + bal acc
    omega
  | c :: r, acc, n, h => by
    have hr : ∀ c ∈ r, c = 100 ∨ c = 117 ∨ c = 119 := fun d hd => h d (List.mem_cons_of_mem _ hd)
    by_cases e : c = 100
    · subst e
      have ih := going_cut r [] (n * 2 ^ 1 + bal acc) hr
      have b0 : bal [] = 0 := rfl
      rw [b0, Int.add_zero] at ih
      have ec : cutAt 100 acc (100 :: r) = acc :: cutAt 100 [] r := by simp [cutAt]
      rw [ec, List.map_cons]
      show hf 1 (n * 2 ^ 1 + bal acc) ((cutAt 100 [] r).map bal) = going r (deed (2 * n + bal acc) 100)
      rw [ih]
      have : deed (2 * n + bal acc) 100 = 2 * (n * 2 ^ 1 + bal acc) := by
        show 2 * (2 * n + bal acc) = _
        omega
      rw [this]
    · have hc : c = 117 ∨ c = 119 := by
        rcases h c List.mem_cons_self with z | z
        · exact absurd z e
        · exact z
      have ih := going_cut r (acc ++ [c]) n hr
      have ec : cutAt 100 acc (c :: r) = cutAt 100 (acc ++ [c]) r := by simp [cutAt, e]
      rw [ec, ih, bal_snoc acc c hc]
      show going r (2 * n + deed (bal acc) c) = going r (deed (2 * n + bal acc) c)
      have : deed (2 * n + bal acc) c = 2 * n + deed (bal acc) c := by
        rcases hc with z | z <;> subst z <;> simp [deed] <;> omega
      rw [this]
/-- deeds done, told by the balances -/
theorem going_hf (l : List Nat) (h : ∀ c ∈ l, c = 100 ∨ c = 117 ∨ c = 119) : hf 1 0 ((cutAt 100 [] l).map bal) = going l 0 := going_cut l [] 0 h
theorem cut_ne (s : Nat) : ∀ l acc : List Nat, cutAt s acc l ≠ []
  | [], _ => by simp [cutAt]
  | c :: r, acc => by
    unfold cutAt
    split
    · simp
    · exact cut_ne s r _
theorem cut_len (s : Nat) : ∀ l acc : List Nat, (cutAt s acc l).length ≤ l.length + 1
  | [], _ => by simp [cutAt]
  | c :: r, acc => by
    unfold cutAt
    split
    · have := cut_len s r []
      simp only [List.length_cons]
      omega
    · have := cut_len s r (acc ++ [c])
      simp only [List.length_cons]
      omega
theorem cut_part (s : Nat) : ∀ l acc : List Nat, ∀ p ∈ cutAt s acc l, p.length ≤ acc.length + l.length
  | [], acc, p, h => by
    rw [List.mem_singleton.mp h]
    exact Nat.le_refl _
  | c :: r, acc, p, h => by
    unfold cutAt at h
    split at h
    · rcases List.mem_cons.mp h with e | e
      · rw [e]
        omega
      · have := cut_part s r [] p e
        simp only [List.length_cons, List.length_nil] at this ⊢
        omega
    · have := cut_part s r _ p h
      simp only [List.length_append, List.length_cons, List.length_nil] at this ⊢
      omega
theorem bal_lt (p : List Nat) : (bal p).natAbs ≤ p.length := by
  have h1 := List.count_le_length (a := 117) (l := p)
  have h2 := List.count_le_length (a := 119) (l := p)
  unfold bal
  omega
/-! ### every second item -/
def strided {α : Type} (off : Nat) (xs : List α) : List α := (List.range (xs.length / 2)).filterMap fun i => xs[2 * i + off]?
theorem strided_two {α : Type} (off : Nat) (a b : α) (r : List α) : strided off (a :: b :: r) = ([a, b][off]?).toList ++ strided off r ∨ 1 < off := by
  by_cases h : 1 < off
  · exact .inr h
  · refine .inl ?_
    unfold strided
    have e : (a :: b :: r).length / 2 = r.length / 2 + 1 := by
      simp only [List.length_cons]
      omega
    rw [e, List.range_succ_eq_map, List.filterMap_cons, List.filterMap_map]
    have e2 : ((fun i => (a :: b :: r)[2 * i + off]?) ∘ Nat.succ) = fun i => r[2 * i + off]? := by
      funext i
      show (a :: b :: r)[2 * (i + 1) + off]? = _
      rw [show 2 * (i + 1) + off = 2 * i + off + 1 + 1 by omega]
      rfl
    rw [e2]
    have c : off = 0 ∨ off = 1 := by omega
    rcases c with c | c <;> subst c <;> rfl
theorem strided0 {α : Type} (a b : α) (r : List α) : strided 0 (a :: b :: r) = a :: strided 0 r := by
  rcases strided_two 0 a b r with h | h
  · exact h
  · omega
theorem strided1 {α : Type} (a b : α) (r : List α) : strided 1 (a :: b :: r) = b :: strided 1 r := by
  rcases strided_two 1 a b r with h | h
  · exact h
  · omega
theorem strided_map {α β : Type} (f : α → β) (off : Nat) (xs : List α) : strided off (xs.map f) = (strided off xs).map f := by
  unfold strided
  rw [List.length_map, List.map_filterMap]
  apply congrArg (fun g => List.filterMap g _)
  funext i
  rw [List.getElem?_map]
/-- neighbours joined -/
def joined (D : Nat) (cs : List Int) : List Int := List.zipWith (fun a b => a * 2 ^ D + b) (strided 0 cs) (strided 1 cs)
theorem joined_two (D : Nat) (a b : Int) (r : List Int) : joined D (a :: b :: r) = (a * 2 ^ D + b) :: joined D r := by
  unfold joined
  rw [strided0, strided1]
  rfl
theorem hf_joined (D : Nat) : ∀ (cs : List Int) (acc : Int), cs.length % 2 = 0 → hf (D * 2) acc (joined D cs) = hf D acc cs
  | [], acc, _ => rfl
  | [x], acc, h => by simp at h
  | a :: b :: r, acc, h => by
    have ih := hf_joined D r (acc * 2 ^ (D * 2) + (a * 2 ^ D + b)) (by simp only [List.length_cons] at h; omega)
    rw [joined_two]
    show hf (D * 2) (acc * 2 ^ (D * 2) + (a * 2 ^ D + b)) (joined D r) = hf D ((acc * 2 ^ D + a) * 2 ^ D + b) r
    rw [ih]
    have e : acc * 2 ^ (D * 2) + (a * 2 ^ D + b) = (acc * 2 ^ D + a) * 2 ^ D + b := by
      have e2 : (2 : Int) ^ (D * 2) = 2 ^ D * 2 ^ D := by rw [Nat.mul_comm, Nat.two_mul, Int.pow_add]
      rw [e2, Int.add_mul, ← Int.mul_assoc]
      omega
    rw [e]
theorem joined_len (D : Nat) : ∀ (cs : List Int), cs.length % 2 = 0 → (joined D cs).length = cs.length / 2
  | [], _ => rfl
  | [x], h => by simp at h
  | a :: b :: r, h => by
    have ih := joined_len D r (by simp only [List.length_cons] at h; omega)
    rw [joined_two, List.length_cons, ih]
    simp only [List.length_cons]
    omega
theorem strided_len {α : Type} : ∀ (off : Nat) (cs : List α), off ≤ 1 → cs.length % 2 = 0 → (strided off cs).length = cs.length / 2
  | _, [], _, _ => by simp [strided]
  | _, [x], _, h => by simp at h
  | off, a :: b :: r, ho, h => by
    have ih := strided_len off r ho (by simp only [List.length_cons] at h; omega)
    have c : off = 0 ∨ off = 1 := by omega
    rcases c with c | c <;> subst c
    · rw [strided0, List.length_cons, ih]
      simp only [List.length_cons]
      omega
    · rw [strided1, List.length_cons, ih]
      simp only [List.length_cons]
      omega
theorem joined_lt {D E : Nat} : ∀ (cs : List Int), cs.length % 2 = 0 → (∀ c ∈ cs, c.natAbs < 2 ^ E) → ∀ c ∈ joined D cs, c.natAbs < 2 ^ (E + D + 1)
  | [], _, _, c, h => nomatch h
  | [x], h, _, _, _ => by simp at h
  | a :: b :: r, h, hb, c, hc => by
    rw [joined_two] at hc
    rcases List.mem_cons.mp hc with e | e
    · have ha := hb a List.mem_cons_self
      have hb2 := hb b (List.mem_cons_of_mem _ List.mem_cons_self)
      have e1 : (a * 2 ^ D).natAbs = a.natAbs * 2 ^ D := by
        rw [Int.natAbs_mul, Int.natAbs_pow]
        rfl
      have e2 : (a * 2 ^ D + b).natAbs ≤ (a * 2 ^ D).natAbs + b.natAbs := Int.natAbs_add_le _ _
      have e3 : a.natAbs * 2 ^ D < 2 ^ E * 2 ^ D := Nat.mul_lt_mul_of_pos_right ha (Nat.pow_pos (by decide))
      have e4 : 2 ^ E ≤ 2 ^ (E + D) := Nat.pow_le_pow_right (by decide) (by omega)
      rw [← Nat.pow_add] at e3
      rw [e, Nat.pow_succ]
      omega
    · exact joined_lt r (by simp only [List.length_cons] at h; omega) (fun c hc => hb c (List.mem_cons_of_mem _ (List.mem_cons_of_mem _ hc))) c e
/-! ### xs[::2], xs[1::2] -/
theorem vals_get : ∀ {xs : List V} {its : List Value}, Vals xs its → ∀ j : Nat, (xs[j]? = none ∧ its[j]? = none) ∨ ∃ x u, xs[j]? = some x ∧ its[j]? = some u ∧ RelV x u
  | _, _, .nil, _ => .inl ⟨rfl, rfl⟩
  | _, _, .cons r _, 0 => .inr ⟨_, _, rfl, rfl, r⟩
  | _, _, .cons _ rs, j + 1 => vals_get rs j
theorem vals_pick {xs : List V} {its : List Value} (r : Vals xs its) (f : Nat → Nat) : ∀ js : List Nat, Vals (js.filterMap fun j => xs[f j]?) (js.filterMap fun j => its[f j]?)
  | [] => .nil
  | j :: js => by
    rcases vals_get r (f j) with ⟨h1, h2⟩ | ⟨x, u, h1, h2, h3⟩
    · rw [List.filterMap_cons, List.filterMap_cons, h1, h2]
      exact vals_pick r f js
    · rw [List.filterMap_cons, List.filterMap_cons, h1, h2]
      exact .cons h3 (vals_pick r f js)
theorem pick_step (its : Array Value) (lo : Option Int) (off : Nat) (hlo : (lo = none ∧ off = 0) ∨ (lo = some 1 ∧ off = 1)) (he : its.size % 2 = 0) :
    slicePick its lo none (some 2) = ((List.range (its.size / 2)).filterMap fun j => its.toList[2 * j + off]?).toArray := by
  unfold slicePick
  have eb : sliceBounds lo none (some 2) its.size = (if its.size = 0 then 0 else (off : Int), (its.size : Int), 2) := by
    rcases hlo with ⟨e1, e2⟩ | ⟨e1, e2⟩ <;> subst e1 <;> subst e2
    · show ((0 : Int), (its.size : Int), (2 : Int)) = _
      split <;> rfl
    · show (max 0 (min 1 (its.size : Int)), (its.size : Int), (2 : Int)) = _
      by_cases h : its.size = 0
      · rw [if_pos h, h]
        rfl
      · rw [if_neg h]
        have : max 0 (min 1 (its.size : Int)) = 1 := by omega
        rw [this]
        rfl
  rw [eb]
  show ((sliceRange (if its.size = 0 then 0 else (off : Int)) (its.size : Int) 2).filterMap (its[·]?)).toArray = _
  have hoff : off ≤ 1 := by
    rcases hlo with ⟨_, e⟩ | ⟨_, e⟩ <;> omega
  have er : sliceRange (if its.size = 0 then 0 else (off : Int)) (its.size : Int) 2 = (List.range (its.size / 2)).map fun j => 2 * j + off := by
    by_cases h : its.size = 0
    · rw [if_pos h, h]
      rfl
    · rw [if_neg h]
      unfold sliceRange
      have h1 : (2 : Int) > 0 := by decide
      have h2 : (off : Int) < (its.size : Int) := by omega
      simp only [h1, if_true, h2]
      have h3 : (((its.size : Int) - off + 2 - 1) / 2).toNat = its.size / 2 := by omega
      rw [h3]
      apply List.map_congr_left
      intro k hk
      omega
  rw [er, List.filterMap_map]
  apply congrArg List.toArray
  apply congrArg (fun g => List.filterMap g _)
  funext j
  show its[2 * j + off]? = its.toList[2 * j + off]?
  simp
def tStep (K : PySem.W.Frag) (off : Nat) (te : TE) : TE := fun σ H Q => te σ H fun x H1 => ∃ a xs, x = .ref a ∧ SqL K H1 a xs ∧ xs.length % 2 = 0 ∧ ∀ p, H1 p = none → Q (.ref p) (upd H1 p (.lst (strided off xs)))
theorem step_run {X : Cx} {pins : List (Addr × Obj)} {σ : L2.St} {H : Hp} {s : Shared} {Q : VK} {a : Addr} {xs : List V} {vl vu vs : Value} {lo : Option Int} {off : Nat}
    (I : Inv X pins σ H s) (hx : SqL X.K H a xs) (he : xs.length % 2 = 0) (hlo : (lo = none ∧ off = 0) ∨ (lo = some 1 ∧ off = 1)) (pl : IsPart vl lo) (pu : IsPart vu none) (ps : IsPart vs (some 2))
    (q : ∀ p, H p = none → Q (.ref p) (upd H p (.lst (strided off xs)))) :
    wpAny (model X.prog X.w) X.A (getItem (.ref a) (.ref s.heap.objs.size)) (EP X pins σ Q) X.xe { s with heap := s.heap.push { cls := .type "slice", data := .fields #[vl, vu, vs] } } := by
  have I5 : Inv X pins σ H { s with heap := s.heap.push { cls := .type "slice", data := .fields #[vl, vu, vs] } } := I.kept (t' := s.toks) fun b ob q => Heap.get?_push_of_some _ q
  obtain ⟨its, r, ht, hz⟩ := I5.list hx
  have hlen := r.length
  have hsz : its.toArray.size = xs.length := by rw [List.size_toArray]; exact hlen.symm
  refine wpAny_getItem_list_slice ht.isList (Heap.IsSliceOf.new _ vl vu vs) pl pu ps (by decide) ?_ (by rw [List.size_toArray]; omega)
  rw [pick_step its.toArray lo off hlo (by rw [hsz]; exact he), hsz]
  refine ⟨.ref _, _, I5.laid (t' := s.toks) (o := .lst (strided off xs)) (fun b ob q => Heap.get?_push_of_some _ q) (Nat.le_refl _) ?_, rfl, q _ (I5.hok.fresh (Nat.le_refl _))⟩
  refine ⟨?_, _, 0, vals_pick r (fun j => 2 * j + off) (List.range (xs.length / 2)), Heap.get?_push_size _ rfl⟩
  have : (strided off xs).length ≤ xs.length / 2 := by
    unfold strided
    refine Nat.le_trans (List.length_filterMap_le _ _) ?_
    rw [List.length_range]
    exact Nat.le_refl _
  omega
theorem pe_ev {X : Cx} {e : Expr} {te : TE} {k : Nat} {p1 p3 pos : Pos} (he : PE X e te) : PE X (.Subscript e (.Slice none none (some (.Constant (.int 2) k p1)) p3) pos) (tStep X.K 0 te) := by
  refine ⟨fun pins s σ H Q I h => ?_⟩
  refine Subscript_ (thn (he.run pins s σ H _ I h) fun v s1 ⟨x, H1, I1, r1, q1⟩ => ?_)
  obtain ⟨a, xs, ex, hx, ee, q⟩ := q1
  subst ex
  cases r1
  have hst : PO X (some (.Constant (.int 2) k p1)) (tPart (tC (.int 2))) := po_some pe_int
  refine wpAny_Slice (thn (po_none.run pins s1 σ H1 (fun o H2 => o = none ∧ H2 = H1) I1 ⟨rfl, rfl⟩) fun vl s2 ⟨l, H2, I2, pl, el, e2⟩ => ?_)
  subst el e2
  refine thn (po_none.run pins s2 σ H2 (fun o H3 => o = none ∧ H3 = H2) I2 ⟨rfl, rfl⟩) fun vu s3 ⟨u, H3, I3, pu, eu, e3⟩ => ?_
  subst eu e3
  refine thn (hst.run pins s3 σ H3 (fun o H4 => o = some 2 ∧ H4 = H3) I3 ⟨2, rfl, rfl, rfl⟩) fun vs s4 ⟨o, H4, I4, ps, eo, e4⟩ => ?_
  subst eo e4
  show wpAny (model X.prog X.w) X.A (subscriptTail e (.Slice none none (some (.Constant (.int 2) k p1)) p3) (.ref a) (.ref s4.heap.objs.size)) (EP X pins σ Q) X.xe { s4 with heap := s4.heap.push { cls := .type "slice", data := .fields #[vl, vu, vs] } }
  have I5 : Inv X pins σ H4 { s4 with heap := s4.heap.push { cls := .type "slice", data := .fields #[vl, vu, vs] } } := I4.kept (t' := s4.toks) fun b ob q => Heap.get?_push_of_some _ q
  obtain ⟨its, r, ht, hz⟩ := I5.list hx
  refine tail_any (ops := [.ref a, .ref s4.heap.objs.size]) ht.isList.typeIs (PySem.slot_list_getitem.lookup) ?_ (by with_unfolding_all rfl)
  exact step_run I4 hx ee (.inl ⟨rfl, rfl⟩) pl pu ps q
theorem pe_od {X : Cx} {e : Expr} {te : TE} {k k0 : Nat} {p0 p1 p3 pos : Pos} (he : PE X e te) : PE X (.Subscript e (.Slice (some (.Constant (.int 1) k0 p0)) none (some (.Constant (.int 2) k p1)) p3) pos) (tStep X.K 1 te) := by
  refine ⟨fun pins s σ H Q I h => ?_⟩
  refine Subscript_ (thn (he.run pins s σ H _ I h) fun v s1 ⟨x, H1, I1, r1, q1⟩ => ?_)
  obtain ⟨a, xs, ex, hx, ee, q⟩ := q1
  subst ex
  cases r1
  have hst : PO X (some (.Constant (.int 2) k p1)) (tPart (tC (.int 2))) := po_some pe_int
  have hlo : PO X (some (.Constant (.int 1) k0 p0)) (tPart (tC (.int 1))) := po_some pe_int
  refine wpAny_Slice (thn (hlo.run pins s1 σ H1 (fun o H2 => o = some 1 ∧ H2 = H1) I1 ⟨1, rfl, rfl, rfl⟩) fun vl s2 ⟨l, H2, I2, pl, el, e2⟩ => ?_)
  subst el e2
  refine thn (po_none.run pins s2 σ H2 (fun o H3 => o = none ∧ H3 = H2) I2 ⟨rfl, rfl⟩) fun vu s3 ⟨u, H3, I3, pu, eu, e3⟩ => ?_
  subst eu e3
  refine thn (hst.run pins s3 σ H3 (fun o H4 => o = some 2 ∧ H4 = H3) I3 ⟨2, rfl, rfl, rfl⟩) fun vs s4 ⟨o, H4, I4, ps, eo, e4⟩ => ?_
  subst eo e4
  show wpAny (model X.prog X.w) X.A (subscriptTail e (.Slice (some (.Constant (.int 1) k0 p0)) none (some (.Constant (.int 2) k p1)) p3) (.ref a) (.ref s4.heap.objs.size)) (EP X pins σ Q) X.xe { s4 with heap := s4.heap.push { cls := .type "slice", data := .fields #[vl, vu, vs] } }
  have I5 : Inv X pins σ H4 { s4 with heap := s4.heap.push { cls := .type "slice", data := .fields #[vl, vu, vs] } } := I4.kept (t' := s4.toks) fun b ob q => Heap.get?_push_of_some _ q
  obtain ⟨its, r, ht, hz⟩ := I5.list hx
  refine tail_any (ops := [.ref a, .ref s4.heap.objs.size]) ht.isList.typeIs (PySem.slot_list_getitem.lookup) ?_ (by with_unfolding_all rfl)
  exact step_run I4 hx ee (.inr ⟨rfl, rfl⟩) pl pu ps q
/-! ### walks over a text, over two lists -/
theorem lc_str {x : Str} {g : TG} {tt : TT} {te : TE} {vs : List Nat} {σ : L2.St} {H1 : Hp} {D : Addr} {Qd : Hp → Prop} (Pv : Nat → Hp → Prop) (h0 : Pv 0 (upd H1 D (.lst [])))
    (hs : ∀ i c H, x.cps.toList[i]? = some c → Pv i H → g (.str ⟨#[c]⟩) (wipe σ vs) H fun σ2 H2 => wipe σ2 vs = wipe σ vs ∧ tt σ2 H2 fun b H3 =>
      if b = true then te σ2 H3 fun y H4 => ∃ acc, H4 D = some (.lst acc) ∧ acc.length < sizeLine ∧ Pv (i + 1) (upd H4 D (.lst (acc ++ [y]))) else Pv (i + 1) H3) (hd : ∀ H, Pv x.cps.toList.length H → Qd H) :
    ∃ W : Nat → Nat → Hp → Prop, (∃ m, W 0 m (upd H1 D (.lst []))) ∧ ∀ i m H, W i m H →
      ((Its x).stop i H ∧ Qd H) ∨ ((Its x).go i H ∧ ∃ Nx : Hp → Prop, (∀ H', Nx H' → ∃ m', m' < m ∧ W (i + 1) m' H') ∧ ∀ v H', (Its x).yld i H v H' → g v (wipe σ vs) H' fun σ2 H2 => wipe σ2 vs = wipe σ vs ∧ tt σ2 H2 fun b H3 =>
        if b = true then te σ2 H3 fun y H4 => ∃ acc, H4 D = some (.lst acc) ∧ acc.length < sizeLine ∧ Nx (upd H4 D (.lst (acc ++ [y]))) else Nx H3) := by
  have sz : x.cps.toList.length = x.cps.size := Array.length_toList
  refine ⟨fun i m H => m = x.cps.size - i ∧ i ≤ x.cps.size ∧ Pv i H, ⟨_, rfl, Nat.zero_le _, h0⟩, ?_⟩
  rintro i m H ⟨rfl, hi, p⟩
  by_cases hlt : i < x.cps.size
  · refine .inr ⟨hlt, Pv (i + 1), fun H' p' => ⟨x.cps.size - (i + 1), by omega, rfl, hlt, p'⟩, fun v H' y => ?_⟩
    obtain ⟨rfl, c, hc, rfl⟩ := y
    exact hs i c _ (by rw [Array.getElem?_toList]; exact hc) p
  · have e : i = x.cps.toList.length := by omega
    subst e
    exact .inl ⟨by show x.cps.size ≤ _; omega, hd H p⟩
theorem for_str {x : Str} {g : TG} {tb : TS} {D : Ends} {σ : L2.St} {H : Hp} (Pv : Nat → L2.St → Hp → Prop) (h0 : Pv 0 σ H)
    (hs : ∀ (i c : Nat) (σ : L2.St) (H : Hp), x.cps.toList[i]? = some c → Pv i σ H → g (.str ⟨#[c]⟩) σ H fun σ2 H2 => tb { D with nx := Pv (i + 1), ct := Pv (i + 1), bk := D.nx } σ2 H2) (hd : ∀ σ H, Pv x.cps.toList.length σ H → D.nx σ H) :
    ∃ W : Nat → Nat → L2.St → Hp → Prop, (∃ m, W 0 m σ H) ∧ ∀ i m σ H, W i m σ H →
      ((Its x).stop i H ∧ D.nx σ H) ∨ ((Its x).go i H ∧ ∃ N : L2.St → Hp → Prop, (∀ σ' H', N σ' H' → ∃ m', m' < m ∧ W (i + 1) m' σ' H') ∧ ∀ v H', (Its x).yld i H v H' → g v σ H' fun σ2 H2 => tb { D with nx := N, ct := N, bk := D.nx } σ2 H2) := by
  have sz : x.cps.toList.length = x.cps.size := Array.length_toList
  refine ⟨fun i m σ H => m = x.cps.size - i ∧ i ≤ x.cps.size ∧ Pv i σ H, ⟨_, rfl, Nat.zero_le _, h0⟩, ?_⟩
  rintro i m σ H ⟨rfl, hi, p⟩
  by_cases hlt : i < x.cps.size
  · refine .inr ⟨hlt, Pv (i + 1), fun σ' H' p' => ⟨x.cps.size - (i + 1), by omega, rfl, hlt, p'⟩, fun v H' y => ?_⟩
    obtain ⟨rfl, c, hc, rfl⟩ := y
    exact hs i c _ _ (by rw [Array.getElem?_toList]; exact hc) p
  · have e : i = x.cps.toList.length := by omega
    subst e
    exact .inl ⟨by show x.cps.size ≤ _; omega, hd σ H p⟩
theorem lc_zip {K : PySem.W.Frag} {a b : Addr} {xs ys : List V} {g : TG} {tt : TT} {te : TE} {vs : List Nat} {σ : L2.St} {H1 : Hp} {D : Addr} {Qd : Hp → Prop} (hl : xs.length = ys.length) (Pv : Nat → Hp → Prop) (h0 : Pv 0 (upd H1 D (.lst [])))
    (hq : ∀ i H, Pv i H → SqL K H a xs ∧ SqL K H b ys)
    (hs : ∀ i x y T H, xs[i]? = some x → ys[i]? = some y → Pv i H → H T = none → g (.ref T) (wipe σ vs) (upd H T (.tup [x, y])) fun σ2 H2 => wipe σ2 vs = wipe σ vs ∧ tt σ2 H2 fun b H3 =>
      if b = true then te σ2 H3 fun y H4 => ∃ acc, H4 D = some (.lst acc) ∧ acc.length < sizeLine ∧ Pv (i + 1) (upd H4 D (.lst (acc ++ [y]))) else Pv (i + 1) H3) (hd : ∀ H, Pv xs.length H → Qd H) :
    ∃ W : Nat → Nat → Hp → Prop, (∃ m, W 0 m (upd H1 D (.lst []))) ∧ ∀ i m H, W i m H →
      ((Itz K a b).stop i H ∧ Qd H) ∨ ((Itz K a b).go i H ∧ ∃ Nx : Hp → Prop, (∀ H', Nx H' → ∃ m', m' < m ∧ W (i + 1) m' H') ∧ ∀ v H', (Itz K a b).yld i H v H' → g v (wipe σ vs) H' fun σ2 H2 => wipe σ2 vs = wipe σ vs ∧ tt σ2 H2 fun b H3 =>
        if b = true then te σ2 H3 fun y H4 => ∃ acc, H4 D = some (.lst acc) ∧ acc.length < sizeLine ∧ Nx (upd H4 D (.lst (acc ++ [y]))) else Nx H3) := by
  refine ⟨fun i m H => m = xs.length - i ∧ i ≤ xs.length ∧ Pv i H, ⟨_, rfl, Nat.zero_le _, h0⟩, ?_⟩
  rintro i m H ⟨rfl, hi, p⟩
  obtain ⟨qx, qy⟩ := hq i H p
  by_cases hlt : i < xs.length
  · have hx : xs[i]? = some xs[i] := List.getElem?_eq_getElem hlt
    have hlt2 : i < ys.length := by omega
    have hy : ys[i]? = some ys[i] := List.getElem?_eq_getElem hlt2
    refine .inr ⟨⟨xs, ys, _, _, qx, qy, hx, hy⟩, Pv (i + 1), fun H' p' => ⟨xs.length - (i + 1), by omega, rfl, hlt, p'⟩, fun v H' y => ?_⟩
    obtain ⟨T, x', y', rfl, hT, rfl, f1, f2⟩ := y
    exact hs i x' y' T H (f1 _ qx) (f2 _ qy) p hT
  · have e : i = xs.length := by omega
    subst e
    exact .inl ⟨⟨xs, ys, qx, qy, .inl (Nat.le_refl _)⟩, hd H p⟩
/-! ### slices of a text -/
theorem cutS_to (z : Str) (k : Nat) : (cutS z none (some (k : Int))).cps.toList = z.cps.toList.take k := by
  have hl : z.length = z.cps.toList.length := by rw [Array.length_toList]; rfl
  show (z.cps.toList.drop (HT.sIx z.length 0 none)).take (HT.sIx z.length z.length (some (k : Int)) - HT.sIx z.length 0 none) = _
  rw [HT.sIx_nat, HT.sIx_none, List.drop_zero, Nat.sub_zero, hl]
  by_cases h : k ≤ z.cps.toList.length
  · rw [Nat.min_eq_left h]
  · rw [Nat.min_eq_right (by omega), List.take_length, List.take_of_length_le (by omega)]
theorem cutS_from (z : Str) (k : Nat) : (cutS z (some (k : Int)) none).cps.toList = z.cps.toList.drop k := by
  have hl : z.length = z.cps.toList.length := by rw [Array.length_toList]; rfl
  show (z.cps.toList.drop (HT.sIx z.length 0 (some (k : Int)))).take (HT.sIx z.length z.length none - HT.sIx z.length 0 (some (k : Int))) = _
  rw [HT.sIx_nat, HT.sIx_none, hl]
  by_cases h : k ≤ z.cps.toList.length
  · rw [Nat.min_eq_left h]
    exact List.take_of_length_le (by rw [List.length_drop]; exact Nat.le_refl _)
  · rw [Nat.min_eq_right (by omega), List.drop_eq_nil_of_le (Nat.le_refl _), List.drop_eq_nil_of_le (by omega)]
    simp
theorem cutS_one (z : Str) (k : Nat) : (cutS z (some (k : Int)) (some ((k + 1 : Nat) : Int))).cps.toList = (z.cps.toList.drop k).take 1 := by
  have hl : z.length = z.cps.toList.length := by rw [Array.length_toList]; rfl
  show (z.cps.toList.drop (HT.sIx z.length 0 (some (k : Int)))).take (HT.sIx z.length z.length (some ((k + 1 : Nat) : Int)) - HT.sIx z.length 0 (some (k : Int))) = _
  rw [HT.sIx_nat, HT.sIx_nat, hl]
  by_cases h : k + 1 ≤ z.cps.toList.length
  · rw [Nat.min_eq_left h, Nat.min_eq_left (by omega : k ≤ z.cps.toList.length)]
    have : k + 1 - k = 1 := by omega
    rw [this]
  · rw [Nat.min_eq_right (by omega : z.cps.toList.length ≤ k + 1)]
    have e : z.cps.toList.drop k = [] := List.drop_eq_nil_of_le (by omega)
    by_cases h2 : k ≤ z.cps.toList.length
    · rw [Nat.min_eq_left h2, e]
      simp
    · rw [Nat.min_eq_right (by omega), List.drop_eq_nil_of_le (Nat.le_refl _), e]
      simp
/-! ### texts and other things -/
/-- a thing that is no text -/
def NoStr (K : PySem.W.Frag) (H : Hp) (x : V) : Prop := ∃ t, TyX K H x t ∧ PySem.W.kitOne K t (.type "str") = some false
section
variable {K : PySem.W.Frag} {H H' : Hp}
theorem NoStr.mono {x : V} (h : NoStr K H x) (s : Same H H') : NoStr K H' x := let ⟨t, h1, h2⟩ := h; ⟨t, Same.tyx s h1, h2⟩
theorem noStr_of {x : V} {n : String} (h : TyX K H x (.type n)) (h1 : kitB n "str" = some false) : NoStr K H x := ⟨_, h, kit_ty h1⟩
theorem noStr_non : NoStr K H .non := noStr_of (.base .non) (by decide +kernel)
theorem noStr_int (i : Int) : NoStr K H (.int i) := noStr_of (.base (.int i)) (by decide +kernel)
theorem noStr_bl (b : Bool) : NoStr K H (.bl b) := noStr_of (.base (.bl b)) (by decide +kernel)
theorem noStr_list {a : Addr} {xs : List V} (h : H a = some (.lst xs)) : NoStr K H (.ref a) := noStr_of (.base (.lst h)) (by decide +kernel)
theorem noStr_tup {a : Addr} {xs : List V} (h : H a = some (.tup xs)) : NoStr K H (.ref a) := noStr_of (.base (.tup h)) (by decide +kernel)
theorem noStr_dict {a : Addr} {kvs : List (Key × V)} (h : H a = some (.dK kvs)) : NoStr K H (.ref a) := noStr_of (.base (.dK h)) (by decide +kernel)
theorem str_ty (x : Str) : ∃ t, TyX K H (.str x) t ∧ PySem.W.kitOne K t (.type "str") = some true := ⟨_, .base (.str x), kit_ty (by decide +kernel)⟩
end
/-- the signs of deeds alone -/
def okS (z : Str) : Bool := z.cps.toList.all fun c => decide (c ∈ [100, 117, 119])
theorem okS_mem {z : Str} (h : okS z = true) : ∀ c ∈ z.cps.toList, c = 100 ∨ c = 117 ∨ c = 119 := fun c hc => by
  have := of_decide_eq_true (List.all_eq_true.mp h c hc)
  simpa using this
/-- a thing as deeds -/
def okD : V → Bool
  | .str z => okS z
  | _ => false
/-- a text of no great length, or no text -/
def Thing (K : PySem.W.Frag) (H : Hp) (x : V) : Prop := (∃ z : Str, x = .str z ∧ z.length ≤ 100000) ∨ (okD x = false ∧ NoStr K H x)
theorem Thing.mono {K : PySem.W.Frag} {H H' : Hp} {x : V} (h : Thing K H x) (s : Same H H') : Thing K H' x := by
  rcases h with h | ⟨h1, h2⟩
  · exact .inl h
  · exact .inr ⟨h1, h2.mono s⟩
/-- what deeds cost -/
def costI (z : Str) (d s : Int) : Int := ((z.cps.toList.count 100 : Nat) : Int) * d + (((z.length : Nat) : Int) - ((z.cps.toList.count 100 : Nat) : Int)) * s
theorem deed_lt {n : Int} {c k : Nat} (h : n.natAbs < 2 ^ k) : (deed n c).natAbs < 2 ^ (k + 1) := by
  unfold deed
  rw [Nat.pow_succ]
  split
  · omega
  · split <;> omega
theorem if_list {S0 S A P : Addr → Hp → Prop} {c : Bool} (h0 : ∀ p H, S0 p H → c = false → S p H) (go : ∀ p H, S p H → P p H) (hA : ∀ p H, S0 p H → c = true → (∀ p H, S p H → P p H) → A p H) :
    ∀ p H, S0 p H → if c = true then A p H else P p H := fun p H hs => by
  cases h : c with
  | true =>
    rw [if_pos rfl]
    exact hA p H hs h go
  | false =>
    rw [if_neg Bool.false_ne_true]
    exact go p H (h0 p H hs h)
end XLed

set_option maxHeartbeats 4000000
/-! a tuple of one text, of a text and a number; what deeds cost, sign by sign -/
namespace XLed
open PySem PySem.Spec PyProof.Rows L2 FG
def dW (w : Str) : PyData := .tuple [.str w]
def dWI (w : Str) (n : Int) : PyData := .tuple [.str w, .int n]
theorem dW_shaped {w : Str} (h : PyData.canLay0 (.str w) = true) : SeqAt.shaped (dW w) = true := by
  unfold SeqAt.shaped dW
  rw [Bool.and_eq_true]
  refine ⟨?_, decide_eq_true ?_⟩
  · simp only [PyData.canLay0, PyData.canLayAll0] at h ⊢
    simp [h]
  · simp [PyData.depth, PyData.depthAll]
theorem dWI_shaped {w : Str} {n : Int} (h : PyData.canLay0 (.str w) = true) : SeqAt.shaped (dWI w n) = true := by
  unfold SeqAt.shaped dWI
  rw [Bool.and_eq_true]
  refine ⟨?_, decide_eq_true ?_⟩
  · simp only [PyData.canLay0, PyData.canLayAll0] at h ⊢
    simp [h]
  · simp [PyData.depth, PyData.depthAll]
theorem dW_eqv (w : Str) : PyData.eqv (dW w) (dW w) = true := by
  simp [dW, PyData.eqv, PyData.eqvAll]
theorem dWI_eqv (w : Str) (n : Int) : PyData.eqv (dWI w n) (dWI w n) = true := by
  simp [dWI, PyData.eqv, PyData.eqvAll]
/-- a text and a list -/
def dWL (w : Str) (ns : List Int) : PyData := .tuple [.str w, dI ns]
theorem dWL_shaped {w : Str} {ns : List Int} (h : PyData.canLay0 (.str w) = true) : SeqAt.shaped (dWL w ns) = true := by
  have hd := dI_depth ns
  unfold SeqAt.shaped dWL
  rw [Bool.and_eq_true]
  refine ⟨?_, decide_eq_true ?_⟩
  · have hl := dI_lay1 ns
    simp only [PyData.canLay0, PyData.canLayAll0] at h ⊢
    rw [hl, h]
    rfl
  · simp only [PyData.depth, PyData.depthAll]
    omega
theorem dWL_eqv (w : Str) (ns : List Int) : PyData.eqv (dWL w ns) (dWL w ns) = true := by
  simp [dWL, PyData.eqv, PyData.eqvAll, dI_eqv]
section
variable {K : PySem.W.Frag} {H : Hp}
theorem dp_WL {a b : Addr} {w : Str} {ns : List Int} (h : H a = some (.tup [.str w, .ref b])) (h2 : SqL K H b (ns.map V.int)) : Dp K H (.ref a) (dWL w ns) := .tup (SqT.of h) (.cons (.str w) (.cons (dp_ints h2) .nil))
theorem dp_W {a : Addr} {w : Str} (h : H a = some (.tup [.str w])) : Dp K H (.ref a) (dW w) := .tup (SqT.of h) (.cons (.str w) .nil)
theorem dp_WI {a : Addr} {w : Str} {n : Int} (h : H a = some (.tup [.str w, .int n])) : Dp K H (.ref a) (dWI w n) := .tup (SqT.of h) (.cons (.str w) (.cons (.int n) .nil))
theorem plain_bl (b : Bool) : Plain K H (.bl b) := ⟨_, _, _, kind_bl b, rfl⟩
theorem plain_non : Plain K H .non := ⟨_, _, _, kind_non, rfl⟩
theorem plain_str (x : Str) : Plain K H (.str x) := ⟨_, _, _, kind_str x, rfl⟩
theorem plain_list {a : Addr} {xs : List V} (h : H a = some (.lst xs)) : Plain K H (.ref a) := ⟨_, _, _, kind_list (SqL.of h), rfl⟩
theorem plain_tup {a : Addr} {xs : List V} (h : H a = some (.tup xs)) : Plain K H (.ref a) := ⟨_, _, _, kind_tup h, rfl⟩
theorem plain_dict {a : Addr} {kvs : List (Key × V)} (h : H a = some (.dK kvs)) : Plain K H (.ref a) := ⟨_, _, _, kind_dict h, rfl⟩
end
def costL (l : List Nat) (d s : Int) : Int := ((l.count 100 : Nat) : Int) * d + (((l.length : Nat) : Int) - ((l.count 100 : Nat) : Int)) * s
theorem costI_L (z : Str) (d s : Int) : costI z d s = costL z.cps.toList d s := by
  unfold costI costL
  rw [Array.length_toList]
  rfl
theorem costL_nil (d s : Int) : costL [] d s = 0 := by
  unfold costL
  simp
theorem costL_snoc (l : List Nat) (c : Nat) (d s : Int) : costL (l ++ [c]) d s = costL l d s + (if c = 100 then d else s) := by
  unfold costL
  rw [List.count_append, List.length_append]
  by_cases h : c = 100
  · subst h
    have e1 : ([100] : List Nat).count 100 = 1 := rfl
    have e2 : ([100] : List Nat).length = 1 := rfl
    rw [if_pos rfl, e1, e2]
    have a1 : (((l.count 100 + 1 : Nat) : Int)) * d = ((l.count 100 : Nat) : Int) * d + d := by
      rw [show ((l.count 100 + 1 : Nat) : Int) = ((l.count 100 : Nat) : Int) + 1 by omega, Int.add_mul, Int.one_mul]
    have a2 : (((l.length + 1 : Nat) : Int) - ((l.count 100 + 1 : Nat) : Int)) = (((l.length : Nat) : Int) - ((l.count 100 : Nat) : Int)) := by omega
    rw [a1, a2]
    omega
  · have e1 : ([c] : List Nat).count 100 = 0 := by
      rw [List.count_eq_zero]
      simp
      omega
    have e2 : ([c] : List Nat).length = 1 := rfl
    rw [if_neg h, e1, e2, Nat.add_zero]
    have a2 : (((l.length + 1 : Nat) : Int) - ((l.count 100 : Nat) : Int)) * s = (((l.length : Nat) : Int) - ((l.count 100 : Nat) : Int)) * s + s := by
      rw [show (((l.length + 1 : Nat) : Int) - ((l.count 100 : Nat) : Int)) = ((((l.length : Nat) : Int) - ((l.count 100 : Nat) : Int)) + 1) by omega, Int.add_mul, Int.one_mul]
    rw [a2]
    omega
theorem going_snoc (l : List Nat) (c : Nat) (n : Int) : going (l ++ [c]) n = deed (going l n) c := by
  unfold going
  rw [List.foldl_append]
  rfl
/-- texts are told by their signs -/
theorem str_iff {x y : Str} : x = y ↔ x.cps.toList = y.cps.toList := ⟨fun h => by rw [h], fun h => TL.ext_tl h⟩
theorem okS_list {z z2 : Str} {l : List Nat} (h : okS z = true) (e : z2.cps.toList = l) (hl : ∀ c ∈ l, c ∈ z.cps.toList) : okS z2 = true := by
  unfold okS at h ⊢
  rw [List.all_eq_true] at h ⊢
  intro c hc
  rw [e] at hc
  exact h c (hl c hc)
end XLed

set_option maxHeartbeats 4000000
/-! dicts of the program's own top, read: whole numbers to texts, texts to whole numbers -/
namespace XTab
open PySem PySem.Spec PyProof.Rows L2
def KeysInt : List DictEntry → Prop
  | [] => True
  | e :: r => (∃ i t, e.key = .int i t ∧ e.hash = hashInt i) ∧ KeysInt r
theorem KeysInt.all : ∀ {l : List DictEntry}, KeysInt l → ∀ e ∈ l, ∃ i t, e.key = .int i t ∧ e.hash = hashInt i
  | _ :: _, ⟨h, _⟩, _, .head _ => h
  | _ :: _, ⟨_, r⟩, _, .tail _ m => r.all _ m
/-- a table of whole numbers to texts -/
def TabI : List DictEntry → List (Int × Str) → Prop
  | [], [] => True
  | e :: r, kv :: s => (∃ t u, e.key = .int kv.1 t ∧ e.val = .str kv.2 u) ∧ TabI r s
  | _, _ => False
/-- a table of texts to whole numbers -/
def TabS : List DictEntry → List (Str × Int) → Prop
  | [], [] => True
  | e :: r, kv :: s => (∃ t u, e.key = .str kv.1 t ∧ e.val = .int kv.2 u) ∧ TabS r s
  | _, _ => False
section
variable {prog : Program} {w : World} {h : Heap} {K : PySem.W.Frag} {a : Addr} {es : Array DictEntry} {n : Nat}
theorem mapInt (X : K.In h) (hl : K.lookup a = some ⟨.type "dict", none, .dict es n, #[]⟩) (hk : KeysInt es.toList) : h.MapOf (intKind prog w) a (fun k => findBy Value.isInt es k) :=
  ⟨_, es, n, X _ _ hl, ⟨rfl, rfl, rfl⟩, rfl, fun e he => by
    obtain ⟨i, t, e1, e2⟩ := hk.all e (Array.mem_toList_iff.mpr he)
    exact ⟨i, by rw [e1]; show Value.isInt i (.int i t) = true; simp [Value.isInt], e2⟩, fun _ => rfl⟩
theorem find_int : ∀ {l : List DictEntry} {kvs : List (Int × Str)}, TabI l kvs → ∀ {i : Int} {x : Str}, kvs.lookup i = some x → ∃ u, (l.find? fun d => Value.isInt i d.key).map (·.val) = some (.str x u)
  | [], [], _, _, _, h => by cases h
  | [], _ :: _, h, _, _, _ => h.elim
  | _ :: _, [], h, _, _, _ => h.elim
  | e :: r, (k, v) :: s, h, i, x, hx => by
    obtain ⟨⟨t, u, e1, e2⟩, hr⟩ := h
    by_cases hi : i = k
    · subst hi
      have hv : v = x := by simpa [List.lookup] using hx
      subst hv
      refine ⟨u, ?_⟩
      rw [List.find?_cons, e1]
      simp [Value.isInt, e2]
    · have hx2 : s.lookup i = some x := by
        have hb : (i == k) = false := by simp [hi]
        rw [List.lookup_cons, hb] at hx
        exact hx
      obtain ⟨u2, h2⟩ := find_int hr hx2
      refine ⟨u2, ?_⟩
      rw [List.find?_cons, e1]
      have hb : Value.isInt i (.int k t) = false := by
        simp [Value.isInt]
        omega
      rw [hb]
      exact h2
def rIxI (K : PySem.W.Frag) : R2 := fun x y H Q => ∃ p i es n kvs z, x = .ref p ∧ y = .int i ∧ K.lookup p = some ⟨.type "dict", none, .dict es n, #[]⟩ ∧ KeysInt es.toList ∧ TabI es.toList kvs ∧ kvs.lookup i = some z ∧ Q (.str z) H
theorem ix_int {X : Cx} : IxR X (rIxI X.K) := by
  intro value slice pins s σ H x y v u Q I rx ry h hs
  obtain ⟨p, i, es, n, kvs, z, rfl, rfl, hl, hk, ht, hz, q⟩ := h
  obtain rfl : v = Value.ref p := rx
  obtain ⟨t, rfl⟩ := ry
  have hm := mapInt (prog := X.prog) (w := X.w) I.kIn hl hk
  obtain ⟨u0, hu⟩ := find_int ht hz
  have hf : findBy Value.isInt es i = some (.str z u0) := by
    obtain ⟨l⟩ := es
    unfold findBy
    rw [List.find?_toArray]
    exact hu
  refine tail_any hm.typeIs slot_dict_getitem.lookup (wpAny_getItem_of (knd := intKind X.prog X.w) (k := i) (by show Value.isInt i (.int i t) = true; simp [Value.isInt]) hm hf ⟨.str z, H, I.tok _, ⟨_, rfl⟩, q⟩) hs
theorem ns_str {l : List DictEntry} : ∀ {kvs : List (Str × Int)}, TabS l kvs → ∀ z : Str, (∃ v u e, kvs.lookup z = some v ∧ l.find? (·.key.isStr z) = some e ∧ e.val = .int v u) ∨ (kvs.lookup z = none ∧ l.find? (·.key.isStr z) = none ∧ l.any (·.refKey) = false) := by
  induction l with
  | nil =>
    intro kvs h z
    cases kvs with
    | nil => exact .inr ⟨rfl, rfl, rfl⟩
    | cons _ _ => exact h.elim
  | cons e r ih =>
    intro kvs h z
    cases kvs with
    | nil => exact h.elim
    | cons kv s =>
      obtain ⟨k, v⟩ := kv
      obtain ⟨⟨t, u, e1, e2⟩, hr⟩ := h
      have hs : e.key.isStr z = decide (k = z) := by
        rw [e1]
        show (k == z) = decide (k = z)
        by_cases h : k = z <;> simp [h]
      by_cases hz : k = z
      · subst hz
        refine .inl ⟨v, u, e, ?_, ?_, e2⟩
        · rw [List.lookup_cons]
          simp
        · rw [List.find?_cons, hs]
          simp
      · have hb : (z == k) = false := by
          simp
          exact fun h => hz h.symm
        have hf : decide (k = z) = false := decide_eq_false hz
        rcases ih hr z with ⟨v2, u2, e3, h1, h2, h3⟩ | ⟨h1, h2, h3⟩
        · refine .inl ⟨v2, u2, e3, ?_, ?_, h3⟩
          · rw [List.lookup_cons, hb]
            exact h1
          · rw [List.find?_cons, hs, hf]
            exact h2
        · refine .inr ⟨?_, ?_, ?_⟩
          · rw [List.lookup_cons, hb]
            exact h1
          · rw [List.find?_cons, hs, hf]
            exact h2
          · rw [List.any_cons, h3, Bool.or_false]
            have : e.refKey = false := by
              show DictEntry.refKey e = false
              unfold DictEntry.refKey
              rw [e1]
            exact this
theorem ns_some (hl : K.lookup a = some ⟨.type "dict", none, .dict es n, #[]⟩) {kvs : List (Str × Int)} (ht : TabS es.toList kvs) {z : Str} {v : Int} (h : kvs.lookup z = some v) : ∃ u, PySem.W.nsIn K a z = some (some (.int v u)) := by
  rcases ns_str ht z with ⟨v2, u, e, h1, h2, h3⟩ | ⟨h1, _⟩
  · rw [h] at h1
    cases h1
    refine ⟨u, ?_⟩
    unfold PySem.W.nsIn
    rw [hl]
    dsimp only
    rw [h2]
    dsimp only
    rw [h3]
  · rw [h] at h1
    cases h1
theorem ns_none (hl : K.lookup a = some ⟨.type "dict", none, .dict es n, #[]⟩) {kvs : List (Str × Int)} (ht : TabS es.toList kvs) {z : Str} (h : kvs.lookup z = none) : PySem.W.nsIn K a z = some none := by
  rcases ns_str ht z with ⟨v2, u, e, h1, _⟩ | ⟨_, h2, h3⟩
  · rw [h] at h1
    cases h1
  · unfold PySem.W.nsIn
    rw [hl]
    dsimp only
    rw [h2, h3]
    rfl
end
end XTab

set_option maxHeartbeats 4000000
/-! reversed(text), walked sign by sign -/
namespace XRevS
open PySem PySem.Spec PyProof.Rows L2 RT
theorem norev_str : typeLookup (.type "str") "__reversed__" = pure none := by rw [typeLookup_type, builtinLookup_eq_fast]; kernel_rfl
theorem get_str : typeLookup (.type "str") "__getitem__" = pure (some (.builtin "str.__getitem__")) := by rw [typeLookup_type, builtinLookup_eq_fast]; kernel_rfl
def rsObj (x : Str) (t : Tok) (i : Int) : Obj := { cls := .type "reversed", data := .fields #[.str x t, rawInt i] }
/-- reversed(x), the next place i -/
def IsRs (h : Heap) (a : Addr) (x : Str) (t : Tok) (i : Int) : Prop := ∃ o, h.get? a = some o ∧ o.cls = .type "reversed" ∧ o.data = .fields #[.str x t, rawInt i]
theorem IsRs.at {h h' : Heap} {a : Addr} {x : Str} {t : Tok} {i : Int} (r : IsRs h a x t i) (e : ∀ o, h.get? a = some o → h'.get? a = some o) : IsRs h' a x t i := let ⟨o, ho, q⟩ := r; ⟨o, e _ ho, q⟩
section
variable {prog : Program} {w : World} {A : Around} {E : Value → Shared → Prop} {s : Shared}
theorem IsRs.typeIs {a : Addr} {x : Str} {t : Tok} {i : Int} (r : IsRs s.heap a x t i) : s.TypeIs (.ref a) "reversed" := let ⟨o, ho, hc, _⟩ := r; ⟨o, ho, hc⟩
theorem code_reversed_str {x : Str} {t : Tok} {Q₁ : Value → Shared → Prop}
    (hlen : ∀ (A : Around) (E : Value → Shared → Prop) (Q : Value → Shared → Prop), Q (.int x.length (s.toks + 1)) { s with toks := s.toks + 1 + 1 } → wpAny (model prog w) A (call (.builtin "len") [.str x t]) Q E s)
    (h : Q₁ (.ref s.heap.objs.size) { s with heap := s.heap.push (rsObj x t ((x.length : Int) - 1)), toks := s.toks + 1 + 1 }) :
    codeAny (model prog w) A (.call (.builtin "reversed.__new__") ⟨[.type "reversed", .str x t], []⟩) (wants Q₁ E) s := by
  have hT : s.TypeIs (.str x t) "str" := typeIs_str s x t
  refine codeAny_of_tree ?_
  show wpAny _ A.in1 (do checkBuiltinCall "reversed.__new__" ⟨[.type "reversed", .str x t], []⟩; again (.builtin "reversed.__new__" ⟨[.type "reversed", .str x t], []⟩)) _ _ s
  refine wpAny_bind (wpAny_of_eq (F.newCall_reversed_1 _) (wpAny_pure ⟨plainId_quiet F.plain_reversed_new _, codeAny_builtin F.entry_reversed_new ?_⟩))
  rw [Around.under_plainId F.plain_reversed_new _]
  unfold Builtin.«reversed.__new__»
  refine wpAny_bind (wpAny_of_eq (newClass_reversed _) ?_)
  try dsimp only
  refine wpAny_bind (wpAny_of_eq (a := ()) (by first | rfl | kernel_rfl) ?_)
  try dsimp only
  refine wpAny_bind (wpAny_of_eq (a := ()) (by first | rfl | kernel_rfl) ?_)
  try dsimp only
  refine wpAny_bind (wpAny_specialOf hT norev_str ?_)
  try dsimp only
  refine wpAny_bind ?_
  wp_delta
  refine wpAny_bind (wpAny_isInstance (T := "str") (U := "dict") (b := false) hT PySem.F.sub_str_dict ?_)
  try dsimp only
  try rw [if_neg Bool.false_ne_true]
  try dsimp only
  refine wpAny_bind (wpAny_specialOf hT get_str ?_)
  try dsimp only
  try rw [if_pos (by decide +kernel)]
  refine wpAny_pure ?_
  try dsimp only
  try rw [if_neg (by decide)]
  try dsimp only
  refine wpAny_bind (hlen _ _ _ ?_)
  refine wpAny_bind (wpAny_of_eq (a := some ((x.length : Nat) : Int)) rfl ?_)
  try dsimp only
  refine wpAny_bind ?_
  show wpAny _ _ (newObj (.type "reversed") (.fields #[.str x t, rawInt ((x.length : Int) - 1)])) _ _ _
  refine wpAny_newObj_type ?_
  exact wpAny_pure h
theorem call_reversed_str {x : Str} {t : Tok} {Q : Value → Shared → Prop}
    (hlen : ∀ (A : Around) (E : Value → Shared → Prop) (Q : Value → Shared → Prop), Q (.int x.length (s.toks + 1)) { s with toks := s.toks + 1 + 1 } → wpAny (model prog w) A (call (.builtin "len") [.str x t]) Q E s)
    (h : Q (.ref s.heap.objs.size) { s with heap := s.heap.push (rsObj x t ((x.length : Int) - 1)), toks := s.toks + 1 + 1 }) : wpAny (model prog w) A (call (.type "reversed") [.str x t]) Q E s := by
  refine callType_codes (Q₁ := fun obj s₁ => s₁.TypeIs obj "reversed" ∧ Q obj s₁) called_rt (F.typeCall_reversed_1 _) F.entry_object_init
    (code_reversed_str (A := A.in1) hlen ⟨⟨_, Heap.get?_push_size _ rfl, rfl⟩, h⟩) fun obj s₁ h₁ => ?_
  exact ⟨h₁.1, F.args_object_init_2 obj _, object_init_meets called_rt.init.lookup called_rt.made (by decide) prog w A.in1 _ s₁ ⟨h₁.1, rfl, h₁.2⟩⟩
theorem next_rs_item {it : Addr} {x : Str} {t : Tok} {i c : Nat} {Q : Option Value → Shared → Prop} (hit : IsRs s.heap it x t (i : Int)) (hx : x.cps[i]? = some c) (hsz : x.length ≤ sizeLine)
    (hQ : ∀ h' tk, IsRs h' it x t ((i : Int) - 1) → Heap.SameBut it s.heap h' → Q (some (.str ⟨#[c]⟩ (s.toks + 1))) { s with heap := h', toks := tk }) : wpAny (model prog w) A (pyNext (.ref it)) Q E s := by
  obtain ⟨o, ho, hc, hd⟩ := id hit
  have hi : i < x.cps.size := (Array.getElem?_eq_some_iff.mp hx).1
  have hl : x.length = x.cps.size := rfl
  have hT : s.TypeIs (.str x t) "str" := typeIs_str s x t
  rw [sizeLine_eq] at hsz
  unfold pyNext
  refine wpAny_bind (wpAny_attempt (wpAny_callSpecial?_slot (name := Str.ofString "__next__") hit.typeIs slot_rt_next
    (wpAny_call_entry slot_rt_next hit.typeIs entry_rt_next ?_ (args_rt_next _))))
  unfold Builtin.«reversed.__next__»
  refine wpAny_bind (wpAny_of_eq (a := (Value.ref it, [])) rfl ?_)
  try dsimp only
  refine wpAny_bind (wpAny_field ho hd (x := .str x t) rfl ?_)
  try dsimp only
  refine wpAny_bind (wpAny_field ho hd (x := rawInt (i : Int)) rfl ?_)
  show wpAny _ _ (if (i : Int) < 0 then _ else _) _ _ s
  rw [if_neg (by omega)]
  try dsimp only
  refine wpAny_bind (wpAny_specialOf hT get_str ?_)
  try dsimp only
  try rw [if_neg (by decide)]
  try dsimp only
  refine wpAny_bind (wpAny_mkInt ?_)
  refine wpAny_bind (wpAny_attempt ?_)
  have fin : seqIndex? (i : Int) x.length = some i := seqIndex_of (by omega) (by omega)
  refine PyProof.Rows.getItem_str (s := { s with toks := s.toks + 1 }) (c := c) (by
    have e1 : decide ((i : Int) < -(2 ^ 63 : Int)) = false := decide_eq_false (by omega)
    have e2 : decide ((i : Int) ≥ 2 ^ 63) = false := decide_eq_false (by omega)
    rw [e1, e2, Bool.or_false]) (by rw [fin]; exact hx) ?_
  try dsimp only
  refine wpAny_bind (wpAny_field (s := { s with toks := s.toks + 1 + 1 }) ho hd (x := rawInt (i : Int)) rfl ?_)
  try dsimp only
  refine wpAny_bind (wpAny_setField (s := { s with toks := s.toks + 1 + 1 }) ho hd (by simp) ?_)
  first
  | refine wpAny_pure ⟨_, rfl, wpAny_pure (hQ _ _ ?_ (Heap.SameBut.update ..))⟩
  | refine wpAny_bind (wpAny_pure (wpAny_pure ⟨_, rfl, wpAny_pure (hQ _ _ ?_ (Heap.SameBut.update ..))⟩))
  exact ⟨_, Heap.get?_update_self _ ho (Obj.isFreed_of_fields (Obj.data_mapFields hd _)), (Obj.cls_mapFields ..).trans hc, by
    rw [Obj.data_mapFields hd]; simp⟩
theorem next_rs_end {it : Addr} {x : Str} {t : Tok} {Q : Option Value → Shared → Prop} (hh : A.handled = none) (hit : IsRs s.heap it x t (-1))
    (hQ : ∀ h', Heap.ExtBut it s.heap h' → Q none { s with heap := h' }) : wpAny (model prog w) A (pyNext (.ref it)) Q E s := by
  obtain ⟨o, ho, hc, hd⟩ := id hit
  unfold pyNext
  refine wpAny_bind (wpAny_attempt (wpAny_callSpecial?_slot (name := Str.ofString "__next__") hit.typeIs slot_rt_next
    (wpAny_call_entry slot_rt_next hit.typeIs entry_rt_next ?_ (args_rt_next _))))
  unfold Builtin.«reversed.__next__»
  refine wpAny_bind (wpAny_of_eq (a := (Value.ref it, [])) rfl ?_)
  try dsimp only
  refine wpAny_bind (wpAny_field ho hd (x := .str x t) rfl ?_)
  try dsimp only
  refine wpAny_bind (wpAny_field ho hd (x := rawInt (-1)) rfl ?_)
  show wpAny _ _ (if (-1 : Int) < 0 then _ else _) _ _ s
  rw [if_pos (by decide)]
  try dsimp only
  refine wpAny_bind (wpAny_rule ?_)
  refine wpAny_bind ?_
  wp_delta
  refine wpAny_bind (wpAny_setField ho hd (by simp) ?_)
  have ho2 := Heap.get?_update_self (Obj.mapFields (·.setIfInBounds 1 (rawInt (-1)))) ho (Obj.isFreed_of_fields (Obj.data_mapFields hd _))
  refine wpAny_setField (s := { s with heap := s.heap.update it (Obj.mapFields (·.setIfInBounds 1 (rawInt (-1)))) }) ho2 (Obj.data_mapFields hd _) (by simp) ?_
  try dsimp only
  first
  | show wpAny _ _ (newExc (.type "StopIteration") [] >>= _) _ _ _
  | (refine wpAny_bind ?_; show wpAny _ _ (newExc (.type "StopIteration") [] >>= _) _ _ _)
  | (refine wpAny_bind ?_; wp_delta; show wpAny _ _ (newExc (.type "StopIteration") [] >>= _) _ _ _)
  refine wpAny_bind ?_
  simp only [newExc, newTuple]
  refine wpAny_bind (wpAny_newObj_type ?_ (by size_fits))
  refine wpAny_bind (m := firstArgMember _ _) (wpAny_of_eq (a := Value.none) (by first | rfl | (simp only [firstArgMember]; rfl)) ?_)
  refine wpAny_newObj_type ?_ (by size_fits)
  simp only [raiseNew]
  refine wpAny_bind (wpAny_handled ?_)
  first | rw [show A.in1.handled = none from hh] | rw [hh]
  refine wpAny_bind (wpAny_pure (wpAny_throw ?_))
  refine wpAny_bind (wpAny_isInstance (T := "StopIteration") (b := true) ⟨_, Heap.get?_push_size _ rfl, rfl⟩ isSubtype_stop ?_)
  refine wpAny_pure (hQ _ ?_)
  refine ((?_ : Heap.ExtBut it s.heap _).push _).push _
  exact fun b ob hb e => (Heap.get?_update_other _ _ (Ne.symm hb)).trans ((Heap.get?_update_other _ _ (Ne.symm hb)).trans e)
theorem iter_rs {it : Addr} {x : Str} {t : Tok} {i : Int} {Q : Value → Shared → Prop} (hit : IsRs s.heap it x t i) (h : Q (.ref it) s) : wpAny (model prog w) A (pyIter (.ref it)) Q E s := by
  refine wpAny_pyIter_slot hit.typeIs slot_rt_iter (wpAny_call_entry slot_rt_iter hit.typeIs entry_rt_iter ?_ (args_rt_iter _))
  show wpAny _ _ (ret (.ref it)) _ _ s
  exact wpAny_pure ⟨_, rfl, "reversed", _, hit.typeIs, slot_rt_next.lookup, h⟩
end
def Itsr (x : Str) : It := ⟨fun i _ => i < x.cps.size, fun i H v H' => H' = H ∧ ∃ c, x.cps[x.cps.size - 1 - i]? = some c ∧ v = .str ⟨#[c]⟩, fun i _ => x.cps.size ≤ i⟩
theorem turn_rs {P : Program} {w : World} {K : PySem.W.Frag} {tg : Expr} (it : Addr) (x : Str) (t : Tok) (hz : x.length ≤ sizeLine) : Turn P w K tg (Itsr x) [it] it (fun i h => i ≤ x.cps.size ∧ IsRs h it x t ((x.cps.size : Int) - 1 - (i : Nat))) where
  mem := by simp
  obj := fun i h st b hb => by
    have e : b = it := by simpa using hb
    subst e
    obtain ⟨_, o, e, c, d⟩ := st
    exact ⟨o, e, fun v z => by rw [d] at z; cases z⟩
  keep := fun i h h' st k => ⟨st.1, st.2.at fun o e => k it (by simp) o e⟩
  item := by
    intro X hP hw hK hc i pins s σ H E I hf st hg
    subst hP hw hK
    have hin : i < x.cps.size := hg
    obtain ⟨f0, f1, f2, f3, f4, f5⟩ := hf it (by simp)
    obtain ⟨_, hit⟩ := st
    have e1 : (x.cps.size : Int) - 1 - ((i : Nat) : Int) = ((x.cps.size - 1 - i : Nat) : Int) := by omega
    rw [e1] at hit
    have hj : x.cps.size - 1 - i < x.cps.size := by omega
    refine next_rs_item hit (c := x.cps[x.cps.size - 1 - i]) (Array.getElem?_eq_getElem hj) hz fun h' tk st' sb => ?_
    have e2 : ((x.cps.size - 1 - i : Nat) : Int) - 1 = (x.cps.size : Int) - 1 - ((i + 1 : Nat) : Int) := by omega
    rw [e2] at st'
    have I1 : Inv X pins σ H { s with heap := h', toks := tk } := I.turned (t' := tk) (fun b o hb e => (sb.2 b hb).trans e) f0 f1 f3 f4 f5
    obtain ⟨o, e, c, d⟩ := id st'
    exact ⟨_, rfl, go_of (s := { s with heap := h', toks := tk }) e c d (by decide) ⟨.str ⟨#[x.cps[x.cps.size - 1 - i]]⟩, H, I1, ⟨_, rfl⟩, ⟨rfl, _, Array.getElem?_eq_getElem hj, rfl⟩, ⟨hin, st'⟩, fun b hb => (hf b hb).1⟩⟩
  done := by
    intro X hP hw hK hc i pins s σ H E I hf st hg
    subst hP hw hK
    obtain ⟨f0, f1, f2, f3, f4, f5⟩ := hf it (by simp)
    obtain ⟨hin, hit⟩ := st
    have hge : x.cps.size ≤ i := hg
    have e1 : (x.cps.size : Int) - 1 - ((i : Nat) : Int) = -1 := by omega
    rw [e1] at hit
    exact next_rs_end (I.ok.hd hc) hit fun h' eb => ⟨rfl, I.turned (t' := s.toks) (fun b o hb e => eb b o hb e) f0 f1 f3 f4 f5⟩
  self := fun A i s Q E st h => iter_rs st.2 h
def iRevS (te : TE) : TI := fun σ H R => te σ H fun v H1 => ∃ x : Str, v = .str x ∧ x.length ≤ sizeLine ∧ R (Itsr x) H1
theorem pi_revS {X : Cx} {tg e : Expr} {te : TE} {p pos : Pos} (hg : Gl X "reversed") (hm : X.mg "reversed" = none) (he : PE X e te) (hs : starEach [e] X.env = (false, eval e X.env) :: starEach [] X.env := by rfl) : PI X tg (.Call (.Name "reversed" p) [e] [] pos) (iRevS te) := by
  refine ⟨fun pins s σ H R I h => ?_⟩
  refine Call_ (ld_blt I hg hm PyProof.Rows.boot_reversed (PyProof.Rows.callWith_type1 (args_cons (thn (he.run pins s σ H _ I h) fun u s1 ⟨v, H1, I1, r1, q1⟩ => args_nil ?_) hs) hs rfl))
  obtain ⟨x, ev, hz, q⟩ := q1
  subst ev
  obtain ⟨t, rfl⟩ := r1
  have hn := line63
  have e1 : ((x.length : Nat) : Int) - 1 = (x.cps.size : Int) - 1 - ((0 : Nat) : Int) := by
    show ((x.cps.size : Nat) : Int) - 1 = _
    omega
  refine call_reversed_str (fun A E Q k => len_str (by omega) k) (iter_rs (x := x) (t := t) (i := ((x.length : Nat) : Int) - 1) ⟨_, Heap.get?_push_size _ rfl, rfl, rfl⟩ ?_)
  refine pi_one (tk := s1.toks + 1 + 1) I1 _ (turn_rs _ x t hz) ⟨Nat.zero_le _, ?_⟩ q
  rw [← e1]
  exact ⟨_, Heap.get?_push_size _ rfl, rfl, rfl⟩
end XRevS

set_option maxHeartbeats 4000000
/-! rows as texts: signs and figures; a text said over; its first sign; walks over a text turned round -/
namespace XShow
open PySem PySem.Spec PyProof.Rows PySem.Builtin PySem.Builtin.Str L2 FG XLed XRevS
/-! ### signs and figures -/
def sgn (n : Int) : Nat := if n = 1 then 43 else if n = 0 then 48 else 45
def fig (c : Nat) : Int := if c = 43 then 1 else if c = 48 then 0 else -1
def showL (ns : List Int) : List Nat := if ns = [] then [48] else ns.reverse.map sgn
def okC (c : Nat) : Bool := decide (c ∈ [43, 48, 45])
def showsL (l : List Nat) : Bool := decide (l = [48]) || (!l.isEmpty && !decide (l.head? = some 48) && l.all okC)
def figsL (l : List Nat) : List Int := if l = [48] then [] else l.reverse.map fig
theorem fig_sgn {n : Int} (h : -1 ≤ n ∧ n ≤ 1) : fig (sgn n) = n := by
  have c : n = -1 ∨ n = 0 ∨ n = 1 := by omega
  rcases c with e | e | e <;> subst e <;> rfl
theorem sgn_fig {c : Nat} (h : okC c = true) : sgn (fig c) = c := by
  have := of_decide_eq_true h
  simp at this
  rcases this with e | e | e <;> subst e <;> rfl
theorem okC_sgn {n : Int} (h : -1 ≤ n ∧ n ≤ 1) : okC (sgn n) = true := by
  have c : n = -1 ∨ n = 0 ∨ n = 1 := by omega
  rcases c with e | e | e <;> subst e <;> rfl
theorem fig_b (c : Nat) : -1 ≤ fig c ∧ fig c ≤ 1 := by
  unfold fig
  split
  · omega
  · split <;> omega
theorem head_rev {α : Type} (l : List α) : l.reverse.getLast? = l.head? := by
  rw [List.getLast?_reverse]
theorem shows_cases {l : List Nat} (h : showsL l = true) : l = [48] ∨ (l ≠ [] ∧ l ≠ [48] ∧ l.head? ≠ some 48 ∧ ∀ c ∈ l, okC c = true) := by
  unfold showsL at h
  by_cases e : l = [48]
  · exact .inl e
  · rw [decide_eq_false e, Bool.false_or, Bool.and_eq_true, Bool.and_eq_true] at h
    refine .inr ⟨?_, e, ?_, List.all_eq_true.mp h.2⟩
    · intro z
      rw [z] at h
      simp at h
    · intro z
      rw [z] at h
      simp at h
theorem figs_row {l : List Nat} (h : showsL l = true) : Row (figsL l) := by
  rcases shows_cases h with e | ⟨h1, h2, h3, h4⟩
  · subst e
    exact ⟨(fun _ hm => nomatch hm), fun z => nomatch z⟩
  · unfold figsL
    rw [if_neg h2]
    refine ⟨fun n hn => ?_, ?_⟩
    · obtain ⟨c, _, rfl⟩ := List.mem_map.mp hn
      exact fig_b c
    · rw [List.getLast?_map, head_rev]
      intro z
      cases e : l.head? with
      | none => rw [e] at z; cases z
      | some c =>
        rw [e] at z h3
        have hc : c ∈ l := List.mem_of_mem_head? (by rw [e]; rfl)
        have := of_decide_eq_true (h4 c hc)
        simp at this
        rcases this with q | q | q
        · subst q; simp [fig] at z
        · exact h3 (by rw [q])
        · subst q; simp [fig] at z
theorem figs_ne {l : List Nat} (h : l ≠ []) (h2 : l ≠ [48]) : figsL l ≠ [] := by
  unfold figsL
  rw [if_neg h2]
  simp [h]
theorem show_figs {l : List Nat} (h : showsL l = true) : showL (figsL l) = l := by
  rcases shows_cases h with e | ⟨h1, h2, h3, h4⟩
  · subst e
    rfl
  · have hf : figsL l = l.reverse.map fig := by unfold figsL; rw [if_neg h2]
    unfold showL
    rw [if_neg (figs_ne h1 h2), hf, ← List.map_reverse, List.reverse_reverse, List.map_map]
    have : l.map (sgn ∘ fig) = l.map _root_.id := List.map_congr_left fun c hc => sgn_fig (h4 c hc)
    rw [this, List.map_id]
theorem figs_len (l : List Nat) : (figsL l).length ≤ l.length := by
  unfold figsL
  split
  · exact Nat.zero_le _
  · rw [List.length_map, List.length_reverse]
    exact Nat.le_refl _
theorem show_len (ns : List Int) : (showL ns).length ≤ ns.length + 1 := by
  unfold showL
  split
  · simp
  · rw [List.length_map, List.length_reverse]
    omega
theorem shows_show {ns : List Int} (r : Row ns) : showsL (showL ns) = true := by
  unfold showL
  by_cases e : ns = []
  · rw [if_pos e]
    rfl
  · rw [if_neg e]
    unfold showsL
    rw [Bool.or_eq_true]
    refine .inr ?_
    rw [Bool.and_eq_true, Bool.and_eq_true]
    refine ⟨⟨?_, ?_⟩, ?_⟩
    · simp [e]
    · rw [List.head?_map, List.head?_reverse]
      cases h : ns.getLast? with
      | none => rfl
      | some n =>
        have hn := r.1 n (List.mem_of_getLast? h)
        have h0 : n ≠ 0 := fun z => r.2 (by rw [h, z])
        have c : n = -1 ∨ n = 1 := by omega
        rcases c with q | q <;> subst q <;> rfl
    · rw [List.all_eq_true]
      intro c hc
      obtain ⟨n, hn, rfl⟩ := List.mem_map.mp hc
      exact okC_sgn (r.1 n (List.mem_reverse.mp hn))
theorem figs_show {ns : List Int} (r : Row ns) : figsL (showL ns) = ns := by
  unfold showL
  by_cases e : ns = []
  · rw [if_pos e, e]
    rfl
  · rw [if_neg e]
    unfold figsL
    by_cases z : ns.reverse.map sgn = [48]
    · -- one figure alone: it is 0, and a row has no such last one
      exfalso
      have l1 : ns.length = 1 := by
        have := congrArg List.length z
        simpa using this
      match ns, l1 with
      | [n], _ =>
        have hs : sgn n = 48 := by simpa using z
        have hn := r.1 n List.mem_cons_self
        have h0 : n ≠ 0 := fun q => r.2 (by rw [q]; rfl)
        have c : n = -1 ∨ n = 1 := by omega
        rcases c with q | q <;> subst q <;> simp [sgn] at hs
    · rw [if_neg z, ← List.map_reverse, List.reverse_reverse, List.map_map]
      have : ns.map (fig ∘ sgn) = ns.map _root_.id := List.map_congr_left fun n hn => fig_sgn (r.1 n hn)
      rw [this, List.map_id]
/-- said over -/
theorem show_over {ns : List Int} (h : ns ≠ []) (k : Nat) (hk : 1 ≤ k) : showL ((List.replicate k ns).flatten) = (List.replicate k (showL ns)).flatten := by
  have ne : (List.replicate k ns).flatten ≠ [] := by
    cases k with
    | zero => omega
    | succ k =>
      rw [List.replicate_succ, List.flatten_cons]
      simp [h]
  unfold showL
  rw [if_neg ne, if_neg h, List.reverse_flatten, List.map_flatten]
  congr 1
  rw [List.map_replicate, List.reverse_replicate, List.map_replicate]
/-! ### the first sign of a text -/
theorem starts_one (x : Str) (c : Nat) : Txt.startswith x ⟨#[c]⟩ = decide (x.cps.toList.head? = some c) := by
  have h := PySem.StrLaws.subAt_one x c 0
  have e : x.cps.toList.head? = x.cps.toList[0]? := List.head?_eq_getElem?
  rw [e]
  show (decide (0 + (⟨#[c]⟩ : Str).length ≤ x.length) && subAt x ⟨#[c]⟩ 0) = _
  by_cases q : x.cps.toList[0]? = some c
  · rw [decide_eq_true q]
    obtain ⟨h1, h2⟩ := h.mpr q
    rw [decide_eq_true h1, h2]
    rfl
  · rw [decide_eq_false q]
    cases hb : (decide (0 + (⟨#[c]⟩ : Str).length ≤ x.length) && subAt x ⟨#[c]⟩ 0) with
    | false => rfl
    | true =>
      rw [Bool.and_eq_true] at hb
      exact absurd (h.mp ⟨of_decide_eq_true hb.1, hb.2⟩) q
/-! ### a text said over -/
theorem fold_cat (a : Array Nat) : ∀ l : List (Array Nat), (l.foldl (· ++ ·) a).toList = a.toList ++ (l.map Array.toList).flatten
  | [] => by simp
  | x :: r => by
    rw [List.foldl_cons, fold_cat (a ++ x) r]
    simp
def rRepS : R2 := fun x y H Q => ∃ (z : Str) (n : Nat), x = .str z ∧ y = .int n ∧ 1 ≤ n ∧ n ≤ 1000000 ∧ z.length * n ≤ 1000000 ∧ ∀ o : Str, o.cps.toList = (List.replicate n z.cps.toList).flatten → Q (.str o) H
theorem op_repS {X : Cx} : OpR X (binaryOp .Mult) rRepS := by
  intro pins s σ H x y v u Q I rx ry h
  obtain ⟨z, n, rfl, rfl, h1, h2, h3, q⟩ := h
  obtain ⟨t, rfl⟩ := rx
  obtain ⟨t', rfl⟩ := ry
  have hz : z.length ≤ 1000000 := Nat.le_trans (Nat.le_mul_of_pos_right _ h1) h3
  have lim : (1000000 : Nat) ≤ sizeLine := by decide
  refine PySem.P.mul_str ?_ (fun _ _ => ?_) (fun _ _ => ?_) ?_
  · have e1 : decide ((n : Int) < -(2 ^ 63 : Int)) = false := decide_eq_false (by omega)
    have e2 : decide ((n : Int) ≥ 2 ^ 63) = false := decide_eq_false (by omega)
    rw [e1, e2]
    rfl
  · have hm : (z.length : Int) * (n : Int) ≤ 2 ^ 63 - 1 := by
      have : ((z.length * n : Nat) : Int) ≤ 1000000 := by omega
      rw [Int.natCast_mul] at this
      omega
    have := (Int.le_ediv_iff_mul_le (a := (z.length : Int)) (b := 2 ^ 63 - 1) (show (0 : Int) < n by omega)).mpr hm
    omega
  · rw [Int.toNat_natCast]
    unfold Builtin.Str.tooLong
    simp
    omega
  · rw [if_neg (by omega)]
    by_cases c : (((n : Int) == 1) || z.length == 0) = true
    · rw [if_pos c]
      have eo : z.cps.toList = (List.replicate n z.cps.toList).flatten := by
        rw [Bool.or_eq_true] at c
        rcases c with c | c
        · have : n = 1 := by
            have := eq_of_beq c
            omega
          subst this
          simp
        · have l0 : z.cps.toList = [] := by
            apply List.length_eq_zero_iff.mp
            rw [Array.length_toList]
            exact eq_of_beq c
          rw [l0]
          simp
      exact ⟨.str z, H, I, ⟨_, rfl⟩, q z eo⟩
    · rw [if_neg c, Int.toNat_natCast]
      have eo : (⟨(List.replicate n z.cps).foldl (· ++ ·) #[]⟩ : Str).cps.toList = (List.replicate n z.cps.toList).flatten := by
        show ((List.replicate n z.cps).foldl (· ++ ·) #[]).toList = _
        rw [fold_cat, List.map_replicate]
        simp
      refine ⟨?_, .str _, H, I.tok _, ⟨_, rfl⟩, q _ eo⟩
      show ((List.replicate n z.cps).foldl (· ++ ·) #[]).size ≤ sizeLine
      have := congrArg List.length eo
      rw [Array.length_toList] at this
      have e2 : ((List.replicate n z.cps.toList).flatten).length = n * z.length := by
        rw [List.length_flatten, List.map_replicate, List.sum_replicate_nat, Array.length_toList]
        rfl
      rw [e2, Nat.mul_comm] at this
      show ((List.replicate n z.cps).foldl (· ++ ·) #[]).size ≤ sizeLine
      have e3 : ((List.replicate n z.cps).foldl (· ++ ·) #[]).size = z.length * n := this
      omega
/-! ### a walk over a text turned round -/
theorem lc_revS {x : Str} {g : TG} {tt : TT} {te : TE} {vs : List Nat} {σ : L2.St} {H1 : Hp} {D : Addr} {Qd : Hp → Prop} (Pv : Nat → Hp → Prop) (h0 : Pv 0 (upd H1 D (.lst [])))
    (hs : ∀ i c H, x.cps.toList.reverse[i]? = some c → Pv i H → g (.str ⟨#[c]⟩) (wipe σ vs) H fun σ2 H2 => wipe σ2 vs = wipe σ vs ∧ tt σ2 H2 fun b H3 =>
      if b = true then te σ2 H3 fun y H4 => ∃ acc, H4 D = some (.lst acc) ∧ acc.length < sizeLine ∧ Pv (i + 1) (upd H4 D (.lst (acc ++ [y]))) else Pv (i + 1) H3) (hd : ∀ H, Pv x.cps.toList.length H → Qd H) :
    ∃ W : Nat → Nat → Hp → Prop, (∃ m, W 0 m (upd H1 D (.lst []))) ∧ ∀ i m H, W i m H →
      ((Itsr x).stop i H ∧ Qd H) ∨ ((Itsr x).go i H ∧ ∃ Nx : Hp → Prop, (∀ H', Nx H' → ∃ m', m' < m ∧ W (i + 1) m' H') ∧ ∀ v H', (Itsr x).yld i H v H' → g v (wipe σ vs) H' fun σ2 H2 => wipe σ2 vs = wipe σ vs ∧ tt σ2 H2 fun b H3 =>
        if b = true then te σ2 H3 fun y H4 => ∃ acc, H4 D = some (.lst acc) ∧ acc.length < sizeLine ∧ Nx (upd H4 D (.lst (acc ++ [y]))) else Nx H3) := by
  have sz : x.cps.toList.length = x.cps.size := Array.length_toList
  refine ⟨fun i m H => m = x.cps.size - i ∧ i ≤ x.cps.size ∧ Pv i H, ⟨_, rfl, Nat.zero_le _, h0⟩, ?_⟩
  rintro i m H ⟨rfl, hi, p⟩
  by_cases hlt : i < x.cps.size
  · refine .inr ⟨hlt, Pv (i + 1), fun H' p' => ⟨x.cps.size - (i + 1), by omega, rfl, hlt, p'⟩, fun v H' y => ?_⟩
    obtain ⟨rfl, c, hc, rfl⟩ := y
    refine hs i c _ ?_ p
    rw [List.getElem?_reverse (by omega), sz, Array.getElem?_toList]
    exact hc
  · have e : i = x.cps.toList.length := by omega
    subst e
    exact .inl ⟨by show x.cps.size ≤ _; omega, hd H p⟩
theorem lc_enum {K : PySem.W.Frag} {a : Addr} {xs : List V} {g : TG} {tt : TT} {te : TE} {vs : List Nat} {σ : L2.St} {H1 : Hp} {D : Addr} {Qd : Hp → Prop} (Pv : Nat → Hp → Prop) (h0 : Pv 0 (upd H1 D (.lst [])))
    (hq : ∀ i H, Pv i H → SqL K H a xs)
    (hs : ∀ i x t H, xs[i]? = some x → Pv i H → H t = none → g (.ref t) (wipe σ vs) (upd H t (.tup [.int (i : Nat), x])) fun σ2 H2 => wipe σ2 vs = wipe σ vs ∧ tt σ2 H2 fun b H3 =>
      if b = true then te σ2 H3 fun y H4 => ∃ acc, H4 D = some (.lst acc) ∧ acc.length < sizeLine ∧ Pv (i + 1) (upd H4 D (.lst (acc ++ [y]))) else Pv (i + 1) H3) (hd : ∀ H, Pv xs.length H → Qd H) :
    ∃ W : Nat → Nat → Hp → Prop, (∃ m, W 0 m (upd H1 D (.lst []))) ∧ ∀ i m H, W i m H →
      ((Ite K a).stop i H ∧ Qd H) ∨ ((Ite K a).go i H ∧ ∃ Nx : Hp → Prop, (∀ H', Nx H' → ∃ m', m' < m ∧ W (i + 1) m' H') ∧ ∀ v H', (Ite K a).yld i H v H' → g v (wipe σ vs) H' fun σ2 H2 => wipe σ2 vs = wipe σ vs ∧ tt σ2 H2 fun b H3 =>
        if b = true then te σ2 H3 fun y H4 => ∃ acc, H4 D = some (.lst acc) ∧ acc.length < sizeLine ∧ Nx (upd H4 D (.lst (acc ++ [y]))) else Nx H3) := by
  refine ⟨fun i m H => m = xs.length - i ∧ i ≤ xs.length ∧ Pv i H, ⟨_, rfl, Nat.zero_le _, h0⟩, ?_⟩
  rintro i m H ⟨rfl, hi, p⟩
  have sq := hq i H p
  by_cases hlt : i < xs.length
  · refine .inr ⟨⟨xs, xs[i], sq, List.getElem?_eq_getElem hlt⟩, Pv (i + 1), fun H' p' => ⟨xs.length - (i + 1), by omega, rfl, hlt, p'⟩, fun v H' y => ?_⟩
    obtain ⟨t, x, rfl, nt, rfl, fx⟩ := y
    exact hs i x t H (fx _ sq) p nt
  · have e : i = xs.length := by omega
    subst e
    exact .inl ⟨⟨xs, sq, Nat.le_refl _⟩, hd H p⟩
/-- a text of no great length, or no text -/
def ThingT (K : PySem.W.Frag) (H : Hp) (x : V) : Prop := (∃ z : Str, x = .str z ∧ z.length ≤ 100000) ∨ ((∀ z, x ≠ .str z) ∧ NoStr K H x)
theorem ThingT.mono {K : PySem.W.Frag} {H H' : Hp} {x : V} (h : ThingT K H x) (s : Same H H') : ThingT K H' x := by
  rcases h with h | ⟨h1, h2⟩
  · exact .inl h
  · exact .inr ⟨h1, h2.mono s⟩
/-- whether a thing shows a row -/
def showsB : V → Bool
  | .str z => showsL z.cps.toList
  | _ => false
end XShow

set_option maxHeartbeats 4000000
/-! min of a list of pairs of whole numbers: one of the items, none with a lesser first number -/
namespace XMin
open PySem PySem.Spec PyProof.Rows L2
open PySem.W (Datum DatumOrd HoldAll Holds minOf)
inductive PairsAt (K : PySem.W.Frag) (H : Hp) : List Addr → List (Int × Int) → Prop
  | nil : PairsAt K H [] []
  | cons {t : Addr} {m : Int × Int} {ts : List Addr} {ms : List (Int × Int)} : SqT K H t [.int m.1, .int m.2] → PairsAt K H ts ms → PairsAt K H (t :: ts) (m :: ms)
theorem PairsAt.dp {K : PySem.W.Frag} {H : Hp} {ts : List Addr} {ms : List (Int × Int)} (h : PairsAt K H ts ms) : DpAll K H (ts.map V.ref) (ms.map Datum.toD) := by
  induction h with
  | nil => exact .nil
  | cons h1 _ ih => exact .cons (.tup h1 (.cons (.int _) (.cons (.int _) .nil))) ih
theorem PairsAt.len {K : PySem.W.Frag} {H : Hp} {ts : List Addr} {ms : List (Int × Int)} (h : PairsAt K H ts ms) : ts.length = ms.length := by
  induction h with
  | nil => rfl
  | cons _ _ ih => simp [ih]
theorem PairsAt.get {K : PySem.W.Frag} {H : Hp} {ts : List Addr} {ms : List (Int × Int)} (h : PairsAt K H ts ms) : ∀ {i : Nat} {t : Addr} {m : Int × Int}, ts[i]? = some t → ms[i]? = some m → SqT K H t [.int m.1, .int m.2] := by
  induction h with
  | nil => exact fun e => nomatch e
  | cons h1 _ ih =>
    intro i t m e1 e2
    cases i with
    | zero =>
      cases e1
      cases e2
      exact h1
    | succ i => exact ih e1 e2
theorem PairsAt.snoc {K : PySem.W.Frag} {H : Hp} {ts : List Addr} {ms : List (Int × Int)} {t : Addr} {m : Int × Int} (h : PairsAt K H ts ms) (h1 : SqT K H t [.int m.1, .int m.2]) : PairsAt K H (ts ++ [t]) (ms ++ [m]) := by
  induction h with
  | nil => exact .cons h1 .nil
  | cons h2 _ ih => exact .cons h2 ih
theorem pair_lt (a b : Int × Int) : DatumOrd.lt a b = (if a.1 = b.1 then decide (a.2 < b.2) else decide (a.1 < b.1)) := rfl
theorem min_le : ∀ (ps : List (Int × Int)) (p : Int × Int), (minOf p ps).1 ≤ p.1 ∧ ∀ q ∈ ps, (minOf p ps).1 ≤ q.1
  | [], p => ⟨Int.le_refl _, fun _ h => nomatch h⟩
  | x :: r, p => by
    show (minOf (if DatumOrd.lt x p = true then x else p) r).1 ≤ p.1 ∧ ∀ q ∈ x :: r, (minOf (if DatumOrd.lt x p = true then x else p) r).1 ≤ q.1
    have ih := min_le r (if DatumOrd.lt x p = true then x else p)
    have key : (if DatumOrd.lt x p = true then x else p).1 ≤ p.1 ∧ (if DatumOrd.lt x p = true then x else p).1 ≤ x.1 := by
      rw [pair_lt]
      by_cases h : x.1 = p.1
      · rw [if_pos h]
        split <;> omega
      · rw [if_neg h]
        by_cases h2 : x.1 < p.1
        · rw [decide_eq_true h2, if_pos rfl]
          omega
        · rw [decide_eq_false h2, if_neg Bool.false_ne_true]
          omega
    refine ⟨Int.le_trans ih.1 key.1, fun q hq => ?_⟩
    rcases List.mem_cons.mp hq with e | e
    · rw [e]
      exact Int.le_trans ih.1 key.2
    · exact ih.2 q e
theorem toD_inj {a b : Int × Int} (h : (Datum.toD a : PyData) = Datum.toD b) : a = b := by
  have h1 : PyData.tuple [PyData.int a.1, PyData.int a.2] = PyData.tuple [PyData.int b.1, PyData.int b.2] := h
  simp at h1
  exact Prod.ext h1.1 h1.2
def rMinP (K : PySem.W.Frag) : List V → Hp → VK → Prop := fun vs H Q => ∃ (a : Addr) (ts : List Addr) (p : Int × Int) (ps : List (Int × Int)), vs = [.ref a] ∧ SqL K H a (ts.map V.ref) ∧ PairsAt K H ts (p :: ps) ∧
  ∀ (i : Nat) (t : Addr) (m : Int × Int), ts[i]? = some t → (p :: ps)[i]? = some m → (∀ q ∈ p :: ps, m.1 ≤ q.1) → Q (.ref t) H
theorem cr_minP {X : Cx} (hc : X.calm = true) (hu : X.A.units + 64 < cLine) : CallR X (.builtin "min") (rMinP X.K) := by
  intro pins s σ H vs us Q I r h
  obtain ⟨a, ts, p, ps, rfl, hs, hp, q⟩ := h
  obtain ⟨its, rv, hl, _⟩ := I.list hs
  rw [Vals.ref1 r]
  obtain ⟨as, ra⟩ := Dp.readsAll I _ _ _ hp.dp rv
  refine PySem.W.min_list_datum (x := p) (xs := ps) (I.ok.hd hc) hl.isList ⟨as, ra⟩ (by show X.A.units + 1 + 1 < cLine; omega) fun i v h' tk hi hr hk => ?_
  have hi2 : its[i]? = some v := by simpa using hi
  have lt : (ts.map V.ref).length = its.length := rv.length
  have hlt := (List.getElem?_eq_some_iff.mp hi2).1
  have hit : i < ts.length := by
    rw [List.length_map] at lt
    omega
  have him : i < (p :: ps).length := by
    rw [← hp.len]
    exact hit
  have gt : ts[i]? = some ts[i] := List.getElem?_eq_getElem hit
  have gm : (p :: ps)[i]? = some (p :: ps)[i] := List.getElem?_eq_getElem him
  obtain ⟨u, hu2, ru⟩ := rv.get (show (ts.map V.ref)[i]? = some (.ref ts[i]) by rw [List.getElem?_map, gt]; rfl)
  have ev : v = u := Option.some.inj (hi2.symm.trans hu2)
  subst ev
  have sq := hp.get gt gm
  obtain ⟨as2, r2⟩ := Dp.reads I (Datum.toD (p :: ps)[i]) (.ref ts[i]) v (.tup sq (.cons (.int _) (.cons (.int _) .nil))) ru
  have I1 : Inv X pins σ H { s with heap := h', toks := tk } := I.kept hk
  obtain ⟨as3, r3⟩ := Dp.reads I1 (Datum.toD (p :: ps)[i]) (.ref ts[i]) v (.tup sq (.cons (.int _) (.cons (.int _) .nil))) ru
  obtain ⟨as4, r4⟩ := hr
  have same : (Datum.toD (p :: ps)[i] : PyData) = Datum.toD (minOf p ps) := (PySem.Reads.unique r3 _ _ r4).1
  have em := toD_inj same
  obtain ⟨m1, m2⟩ := min_le ps p
  refine ⟨.ref ts[i], H, I1, ru, q i ts[i] (p :: ps)[i] gt gm fun x hx => ?_⟩
  rw [em]
  rcases List.mem_cons.mp hx with e | e
  · rw [e]
    exact m1
  · exact m2 x e
end XMin

set_option maxHeartbeats 4000000
/-! min of a list of pairs, the very pair -/
namespace XMin
open PySem PySem.Spec PyProof.Rows L2
open PySem.W (Datum DatumOrd HoldAll Holds minOf)
/-- the same, with the very pair that is told: the least, of pairs of one first number that of the least second one -/
def rMinQ (K : PySem.W.Frag) : List V → Hp → VK → Prop := fun vs H Q => ∃ (a : Addr) (ts : List Addr) (p : Int × Int) (ps : List (Int × Int)), vs = [.ref a] ∧ SqL K H a (ts.map V.ref) ∧ PairsAt K H ts (p :: ps) ∧
  ∀ (i : Nat) (t : Addr), ts[i]? = some t → (p :: ps)[i]? = some (minOf p ps) → Q (.ref t) H
theorem cr_minQ {X : Cx} (hc : X.calm = true) (hu : X.A.units + 64 < cLine) : CallR X (.builtin "min") (rMinQ X.K) := by
  intro pins s σ H vs us Q I r h
  obtain ⟨a, ts, p, ps, rfl, hs, hp, q⟩ := h
  obtain ⟨its, rv, hl, _⟩ := I.list hs
  rw [Vals.ref1 r]
  obtain ⟨as, ra⟩ := Dp.readsAll I _ _ _ hp.dp rv
  refine PySem.W.min_list_datum (x := p) (xs := ps) (I.ok.hd hc) hl.isList ⟨as, ra⟩ (by show X.A.units + 1 + 1 < cLine; omega) fun i v h' tk hi hr hk => ?_
  have hi2 : its[i]? = some v := by simpa using hi
  have lt : (ts.map V.ref).length = its.length := rv.length
  have hlt := (List.getElem?_eq_some_iff.mp hi2).1
  have hit : i < ts.length := by
    rw [List.length_map] at lt
    omega
  have him : i < (p :: ps).length := by
    rw [← hp.len]
    exact hit
  have gt : ts[i]? = some ts[i] := List.getElem?_eq_getElem hit
  have gm : (p :: ps)[i]? = some (p :: ps)[i] := List.getElem?_eq_getElem him
  obtain ⟨u, hu2, ru⟩ := rv.get (show (ts.map V.ref)[i]? = some (.ref ts[i]) by rw [List.getElem?_map, gt]; rfl)
  have ev : v = u := Option.some.inj (hi2.symm.trans hu2)
  subst ev
  have sq := hp.get gt gm
  obtain ⟨as2, r2⟩ := Dp.reads I (Datum.toD (p :: ps)[i]) (.ref ts[i]) v (.tup sq (.cons (.int _) (.cons (.int _) .nil))) ru
  have I1 : Inv X pins σ H { s with heap := h', toks := tk } := I.kept hk
  obtain ⟨as3, r3⟩ := Dp.reads I1 (Datum.toD (p :: ps)[i]) (.ref ts[i]) v (.tup sq (.cons (.int _) (.cons (.int _) .nil))) ru
  obtain ⟨as4, r4⟩ := hr
  have same : (Datum.toD (p :: ps)[i] : PyData) = Datum.toD (minOf p ps) := (PySem.Reads.unique r3 _ _ r4).1
  have em := toD_inj same
  exact ⟨.ref ts[i], H, I1, ru, q i ts[i] gt (by rw [gm, em])⟩
end XMin

set_option maxHeartbeats 4000000
/-! deeds written from first steps and a row; a text said over no times -/
namespace XPlan
open PySem PySem.Spec PyProof.Rows PySem.Builtin PySem.Builtin.Str L2 FG XLed XDeeds XLeast
/-- ahead, back, and the sign of ahead -/
def Way (up down : Nat) (g : Int) : Prop := (up = 117 ∧ down = 119 ∧ g = 1) ∨ (up = 119 ∧ down = 117 ∧ g = -1)
/-- the deeds for one figure -/
def figD (up down : Nat) (n : Int) : List Nat := if n = 0 then [100] else if n = 1 then [100, up] else [100, down]
/-- the deeds for a row behind first steps -/
def plan (up down first : Nat) (row : List Int) : List Nat := List.replicate first up ++ (row.reverse.map (figD up down)).flatten
theorem going_app (a b : List Nat) (n : Int) : going (a ++ b) n = going b (going a n) := List.foldl_append
theorem going_rep {up down : Nat} {g : Int} (h : Way up down g) : ∀ (k : Nat) (n : Int), going (List.replicate k up) n = n + g * k
  | 0, n => by
    show n = n + g * ((0 : Nat) : Int)
    simp
  | k + 1, n => by
    have ih := going_rep h k (deed n up)
    show going (List.replicate k up) (deed n up) = _
    rw [ih]
    unfold deed
    rcases h with ⟨rfl, rfl, rfl⟩ | ⟨rfl, rfl, rfl⟩ <;> simp <;> omega
theorem going_fig {up down : Nat} {g : Int} (h : Way up down g) (x n : Int) (hx : -1 ≤ x ∧ x ≤ 1) : going (figD up down x) n = 2 * n + g * x := by
  have c : x = 0 ∨ x = 1 ∨ x = -1 := by omega
  rcases c with rfl | rfl | rfl <;> rcases h with ⟨rfl, rfl, rfl⟩ | ⟨rfl, rfl, rfl⟩ <;> simp [figD, going, deed] <;> omega
theorem going_row {up down : Nat} {g : Int} (h : Way up down g) : ∀ (row : List Int) (n : Int), (∀ x ∈ row, -1 ≤ x ∧ x ≤ 1) → going ((row.reverse.map (figD up down)).flatten) n = n * 2 ^ row.length + g * val row
  | [], n, _ => by
    show n = n * 2 ^ 0 + g * 0
    simp
  | x :: r, n, hr => by
    have ih := going_row h r n fun y hy => hr y (List.mem_cons_of_mem _ hy)
    have hx := hr x List.mem_cons_self
    rw [List.reverse_cons, List.map_append, List.flatten_append, going_app, ih]
    show going ([figD up down x].flatten) _ = _
    rw [show [figD up down x].flatten = figD up down x by simp, going_fig h x _ hx]
    show _ = n * 2 ^ (r.length + 1) + g * (x + 2 * val r)
    have e : n * 2 ^ (r.length + 1) = 2 * (n * 2 ^ r.length) := by
      rw [Int.pow_succ, ← Int.mul_assoc, Int.mul_comm]
    have e2 : g * (x + 2 * val r) = g * x + 2 * (g * val r) := by
      rw [Int.mul_add, ← Int.mul_assoc, Int.mul_comm g 2, Int.mul_assoc]
    rw [e, e2]
    omega
theorem going_plan {up down : Nat} {g : Int} (h : Way up down g) (first : Nat) (row : List Int) (hr : ∀ x ∈ row, -1 ≤ x ∧ x ≤ 1) : going (plan up down first row) 0 = g * ((first : Int) * 2 ^ row.length + val row) := by
  rw [plan, going_app, going_rep h, going_row h row _ hr, Int.mul_add, ← Int.mul_assoc]
  simp
theorem fig_count {up down : Nat} {g : Int} (h : Way up down g) (x : Int) : (figD up down x).count 100 = 1 := by
  unfold figD
  rcases h with ⟨rfl, rfl, rfl⟩ | ⟨rfl, rfl, rfl⟩ <;> (split; · rfl) <;> split <;> rfl
theorem row_count {up down : Nat} {g : Int} (h : Way up down g) : ∀ l : List Int, ((l.map (figD up down)).flatten).count 100 = l.length
  | [] => rfl
  | x :: r => by
    have ih := row_count h r
    rw [List.map_cons, List.flatten_cons, List.count_append, ih, fig_count h, List.length_cons]
    omega
theorem plan_count {up down : Nat} {g : Int} (h : Way up down g) (first : Nat) (row : List Int) : (plan up down first row).count 100 = row.length := by
  rw [plan, List.count_append, row_count h, List.length_reverse]
  have z : (List.replicate first up).count 100 = 0 := by
    rw [List.count_eq_zero]
    intro m
    have := (List.mem_replicate.mp m).2
    rcases h with ⟨rfl, _, _⟩ | ⟨rfl, _, _⟩ <;> simp at this
  omega
theorem fig_len (up down : Nat) (x : Int) : (figD up down x).length = 1 + (if x = 0 then 0 else 1) := by
  unfold figD
  by_cases h : x = 0
  · rw [if_pos h, if_pos h]
    rfl
  · rw [if_neg h, if_neg h]
    split <;> rfl
theorem nz_append : ∀ a b : List Int, nz (a ++ b) = nz a + nz b
  | [], b => by
    show nz b = 0 + nz b
    omega
  | x :: r, b => by
    have ih := nz_append r b
    show (if x = 0 then 0 else 1) + nz (r ++ b) = (if x = 0 then 0 else 1) + nz r + nz b
    omega
theorem row_len (up down : Nat) : ∀ l : List Int, ((l.map (figD up down)).flatten).length = l.length + nz l
  | [] => rfl
  | x :: r => by
    have ih := row_len up down r
    rw [List.map_cons, List.flatten_cons, List.length_append, ih, fig_len, List.length_cons]
    show _ = r.length + 1 + ((if x = 0 then 0 else 1) + nz r)
    omega
theorem nz_rev (l : List Int) : nz l.reverse = nz l := by
  induction l with
  | nil => rfl
  | cons x r ih =>
    rw [List.reverse_cons, nz_append, ih]
    show nz r + ((if x = 0 then 0 else 1) + 0) = (if x = 0 then 0 else 1) + nz r
    omega
theorem plan_len (up down first : Nat) (row : List Int) : (plan up down first row).length = first + (row.length + nz row) := by
  rw [plan, List.length_append, List.length_replicate, row_len, List.length_reverse, nz_rev]
theorem plan_ok {up down : Nat} {g : Int} (h : Way up down g) (first : Nat) (row : List Int) : (plan up down first row).all (fun c => decide (c ∈ [100, 117, 119])) = true := by
  rw [List.all_eq_true]
  intro c hc
  rw [plan] at hc
  have q : c = 100 ∨ c = up ∨ c = down := by
    rcases List.mem_append.mp hc with m | m
    · exact .inr (.inl (List.mem_replicate.mp m).2)
    · obtain ⟨l, hl, m2⟩ := List.mem_flatten.mp m
      obtain ⟨x, _, rfl⟩ := List.mem_map.mp hl
      unfold figD at m2
      split at m2
      · simp at m2
        exact .inl m2
      · split at m2
        · simp at m2
          rcases m2 with e | e
          · exact .inl e
          · exact .inr (.inl e)
        · simp at m2
          rcases m2 with e | e
          · exact .inl e
          · exact .inr (.inr e)
  rcases h with ⟨rfl, rfl, rfl⟩ | ⟨rfl, rfl, rfl⟩ <;> rcases q with rfl | rfl | rfl <;> decide
/-! ### a lean row of what is left, put behind the first steps -/
def rowOf (r : List Int) (d : Nat) : List Int := r.take d ++ List.replicate (d - r.length) 0
def firstOf (n : Nat) (r : List Int) (d : Nat) : Nat := if d < r.length then n / 2 ^ d + 1 else n / 2 ^ d
theorem val_zeros : ∀ k : Nat, val (List.replicate k 0) = 0
  | 0 => rfl
  | k + 1 => by
    have := val_zeros k
    show 0 + 2 * val (List.replicate k 0) = 0
    omega
theorem nz_zeros : ∀ k : Nat, nz (List.replicate k 0) = 0
  | 0 => rfl
  | k + 1 => by
    have := nz_zeros k
    show 0 + nz (List.replicate k 0) = 0
    omega
theorem rowOf_len (r : List Int) (d : Nat) : (rowOf r d).length = d := by
  rw [rowOf, List.length_append, List.length_take, List.length_replicate]
  omega
theorem rowOf_fig {r : List Int} (d : Nat) (h : ∀ x ∈ r, -1 ≤ x ∧ x ≤ 1) : ∀ x ∈ rowOf r d, -1 ≤ x ∧ x ≤ 1 := by
  intro x hx
  rcases List.mem_append.mp hx with m | m
  · exact h x (List.mem_of_mem_take m)
  · have := (List.mem_replicate.mp m).2
    omega
theorem put_facts {n d : Nat} {r : List Int} (hr : Row r) (hv : val r = ((n % 2 ^ d : Nat) : Int)) (hl : r.length ≤ d + 1) :
    (firstOf n r d : Int) * 2 ^ d + val (rowOf r d) = (n : Int) ∧ firstOf n r d + nz (rowOf r d) = n / 2 ^ d + nz r := by
  have dm := Nat.div_add_mod n (2 ^ d)
  have dm2 : ((n / 2 ^ d : Nat) : Int) * 2 ^ d + ((n % 2 ^ d : Nat) : Int) = (n : Int) := by
    have : ((2 ^ d * (n / 2 ^ d) + n % 2 ^ d : Nat) : Int) = (n : Int) := by rw [dm]
    rw [Int.natCast_add, Int.natCast_mul, Int.natCast_pow, Int.mul_comm] at this
    exact this
  by_cases h : d < r.length
  · have hl2 : r.length = d + 1 := by omega
    have hne : r ≠ [] := by
      intro e
      rw [e] at h
      simp at h
    obtain ⟨t, ht⟩ : ∃ t, r.getLast? = some t := by
      cases e : r.getLast? with
      | none => exact absurd (List.getLast?_eq_none_iff.mp e) hne
      | some t => exact ⟨t, rfl⟩
    have t0 : t ≠ 0 := by
      intro e
      rw [e] at ht
      exact hr.2 ht
    have sp := last_split ht
    have ld : r.dropLast.length = d := by rw [List.length_dropLast, hl2]; rfl
    have tk : r.take d = r.dropLast := by rw [List.dropLast_eq_take, hl2]; rfl
    have e0 : d - r.length = 0 := by omega
    have eR : rowOf r d = r.dropLast := by rw [rowOf, tk, e0]; simp
    have vr : val r = val r.dropLast + 2 ^ d * t := by
      have := congrArg val sp
      rw [val_append, ld] at this
      rw [this]
      show _ = val r.dropLast + 2 ^ d * t
      show val r.dropLast + 2 ^ d * (t + 2 * 0) = _
      simp
    have nr : nz r = nz r.dropLast + 1 := by
      have := congrArg nz sp
      rw [nz_append] at this
      rw [this]
      show nz r.dropLast + ((if t = 0 then 0 else 1) + 0) = _
      rw [if_neg t0]
    have ab := val_abs r.dropLast fun x hx => hr.1 x (List.mem_of_mem_take (tk.symm ▸ hx))
    rw [ld] at ab
    have tm : t ∈ r := List.mem_of_getLast? ht
    have tb := hr.1 t tm
    have ab2 : ((val r.dropLast).natAbs : Int) < 2 ^ d := by
      have : ((val r.dropLast).natAbs : Int) < ((2 ^ d : Nat) : Int) := by omega
      rwa [Int.natCast_pow] at this
    have t1 : t = 1 := by
      have c : t = 1 ∨ t = -1 := by omega
      rcases c with e | e
      · exact e
      · rw [e] at vr
        rw [hv] at vr
        generalize (2 ^ d : Int) = p at ab2 vr
        omega
    rw [t1] at vr
    have f1 : firstOf n r d = n / 2 ^ d + 1 := if_pos h
    rw [f1, eR, nr]
    refine ⟨?_, by omega⟩
    rw [Int.natCast_add, Int.add_mul]
    rw [hv] at vr
    generalize (2 ^ d : Int) = p at vr dm2
    generalize ((n / 2 ^ d : Nat) : Int) * p = w at dm2
    omega
  · have tk : r.take d = r := List.take_of_length_le (by omega)
    have f1 : firstOf n r d = n / 2 ^ d := if_neg h
    rw [f1, rowOf, tk, val_append, val_zeros, nz_append, nz_zeros]
    refine ⟨?_, by omega⟩
    rw [hv]
    simp
    exact dm2
/-- deeds so written lead to the number, and cost what was told -/
theorem plan_led {up down : Nat} {g : Int} (h : Way up down g) {n d : Nat} {r : List Int} (hr : Row r) (hv : val r = ((n % 2 ^ d : Nat) : Int)) (hl : r.length ≤ d + 1) :
    going (plan up down (firstOf n r d) (rowOf r d)) 0 = g * (n : Int) := by
  rw [going_plan h _ _ (rowOf_fig d hr.1), rowOf_len, (put_facts hr hv hl).1]
theorem plan_size {up down : Nat} {g : Int} (h : Way up down g) {n d : Nat} {r : List Int} (hr : Row r) (hg : gaps r = true) (hv : val r = ((n % 2 ^ d : Nat) : Int)) (hl : r.length ≤ d + 1) :
    (plan up down (firstOf n r d) (rowOf r d)).count 100 = d ∧ (plan up down (firstOf n r d) (rowOf r d)).length = d + (n / 2 ^ d + W (n % 2 ^ d)) := by
  have f := (put_facts hr hv hl).2
  have e := nz_lean r hr hg
  have e2 : (val r).natAbs = n % 2 ^ d := by rw [hv]; exact Int.natAbs_natCast _
  rw [e2] at e
  rw [plan_count h, plan_len, rowOf_len]
  exact ⟨rfl, by omega⟩
/-! ### a text said over, or not at all -/
def rRepS0 : R2 := fun x y H Q => ∃ (z : Str) (n : Nat), x = .str z ∧ y = .int n ∧ n ≤ 1000000 ∧ z.length * n ≤ 1000000 ∧ z.length ≤ 1000000 ∧ ∀ o : Str, o.cps.toList = (List.replicate n z.cps.toList).flatten → Q (.str o) H
theorem op_repS0 {X : Cx} : OpR X (binaryOp .Mult) rRepS0 := by
  intro pins s σ H x y v u Q I rx ry h
  obtain ⟨z, n, rfl, rfl, h2, h3, h4, q⟩ := h
  by_cases h1 : 1 ≤ n
  · exact XShow.op_repS pins s σ H _ _ v u Q I rx ry ⟨z, n, rfl, rfl, h1, h2, h3, q⟩
  · obtain rfl : n = 0 := by omega
    obtain ⟨t, rfl⟩ := rx
    obtain ⟨t', rfl⟩ := ry
    exact PySem.P.mul_str_none (by decide) (by decide) ⟨.str _, H, I.tok _, ⟨_, rfl⟩, q _ rfl⟩
end XPlan

/-! int(text, 16), the text of any length. -/
namespace XB
open PySem PySem.NumText PySem.Calls L2

/-- figures 0 to 2 alone -/
def Figs (cs : List Nat) : Prop := ∀ c ∈ cs, c = 48 ∨ c = 49 ∨ c = 50
theorem Figs.hex {cs : List Nat} (h : Figs cs) : ∀ c ∈ cs, Hx.IsHex c := fun c hc => by
  have := h c hc
  exact .inl ⟨by omega, by omega⟩
theorem Bits.figs {cs : List Nat} (h : Bits cs) : Figs cs := fun c hc => by
  have := h c hc
  omega
theorem read16 (limit : Nat) {cs : List Nat} (h : ∀ c ∈ cs, Hx.IsHex c) (hne : cs ≠ []) : (int_private% "readNumeral") limit 16 cs = (int_private% "Numeral.value") ((Hx.hexNum cs : Nat) : Int) := by
  have hr : ∀ c ∈ cs.reverse, Hx.IsHex c := fun c hc => h c (List.mem_reverse.mp hc)
  refine (readNumeral_eq limit 16 cs).trans ?_
  rw [Hx.dropB h, Hx.signH h]
  show judge limit false (based 16 cs).1 (based 16 cs).2.1 (digits? (based 16 cs).1 (((based 16 cs).2.2.reverse.dropWhile blank).reverse)) = _
  rw [Hx.basedH h]
  show judge limit false 16 false (digits? 16 ((cs.reverse.dropWhile blank).reverse)) = _
  rw [Hx.dropB hr, List.reverse_reverse, Hx.digits_hex h hne]
  have e2 := Hx.push_hex cs #[]
  have z : (#[] : Array Nat).foldl (fun acc d => acc * 16 + d) 0 = 0 := by simp
  rw [z] at e2
  unfold judge
  dsimp only
  rw [e2]
  rfl
open PyProof.Rows in
theorem wp_text16 {M : Model} {A : Around} {E : Value → Shared → Prop} {s : Shared} {Q : Value → Shared → Prop} {v : Value} {text : List Nat} {n : Int}
    (hn : s.heap.NoDigits) (hr : ∀ limit, (int_private% "readNumeral") limit 16 (text.takeWhile (· != 0)) = (int_private% "Numeral.value") n)
    (ha : ((text.takeWhile (· != 0)).length == text.length) = true) (h : Q (.int n s.toks) { s with toks := s.toks + 1 }) :
    wpAny M A ((int_private% "intFromText") v text 16) Q E s := by
  obtain ⟨hp, g, d, tk, os⟩ := s
  by_cases hs : (text.takeWhile (· != 0)).length ≤ 640
  · exact Hx.wp_textB hs (hr 0) ha h
  · repeat (any_goals (first
      | assumption
      | (with_reducible refine wpAny_ite_false (decide_eq_false hs) ?_)
      | (with_reducible refine wpAny_ite_true (decide_eq_true ha) ?_)
      | ((with_reducible show wpAny _ _ Builtin.intMaxStrDigits _ _ _); refine wp_maxDigits hn ?_)
      | wp_step))
    all_goals (try rw [hr])
    all_goals (try dsimp only)
    repeat (any_goals (first
      | assumption
      | (with_reducible refine wpAny_ite_false (decide_eq_false hs) ?_)
      | (with_reducible refine wpAny_ite_true (decide_eq_true ha) ?_)
      | wp_step))
set_option maxHeartbeats 4000000 in
theorem meets16 {x : PySem.Str} {u t : Tok} (h : ∀ c ∈ x.cps.toList, Hx.IsHex c) (hne : x.cps.toList ≠ []) :
    Meets (Builtin.«int.__new__» ⟨[.type "int", .str x u, .int 16 t], []⟩) (spec2 ((Hx.hexNum x.cps.toList : Nat) : Int)) :=
  Meets.of_wp fun prog w A R s hQ => by
    obtain ⟨hp, g, d, tk, os⟩ := s
    have k1 := F.conv_sub_int
    have k2 := F.madeHere_int
    have k3 : typeOf (.str x u) = pure (.type "str") := rfl
    obtain ⟨e1, e2⟩ := Hx.seen_hex h
    have hr : ∀ limit, (int_private% "readNumeral") limit 16 (numSeenOf x) = (int_private% "Numeral.value") ((Hx.hexNum x.cps.toList : Nat) : Int) := by
      intro limit
      rw [e2]
      exact read16 limit h hne
    have ha : ((numSeenOf x).length == (numTextOf x).length) = true := by
      rw [e1, e2]
      exact beq_self_eq_true _
    have hk := Held.mk (And.intro hr (And.intro ha hQ))
    clear hr ha e1 e2 hne h hQ
    repeat (any_goals (first
      | assumption
      | ((with_reducible show wpAny _ _ ((int_private% "intFromText") _ _ _) _ _ _); refine wp_text16 hk.out.2.2.1 hk.out.1 hk.out.2.1 ?_)
      | wp_step))
    all_goals first | exact ⟨_, rfl, hk.out.2.2.2⟩ | skip
theorem call16 {prog : Program} {w : World} {A : Around} {E : Value → Shared → Prop} {s : Shared} {Q : Value → Shared → Prop} {x : PySem.Str} {u t : Tok} (hn : s.heap.NoDigits) (h : ∀ c ∈ x.cps.toList, Hx.IsHex c) (hne : x.cps.toList ≠ [])
    (hQ : Q (.int ((Hx.hexNum x.cps.toList : Nat) : Int) s.toks) { s with toks := s.toks + 1 }) : wpAny (model prog w) A (call (.type "int") [.str x u, .int 16 t]) Q E s :=
  callType_new F.called_int F.newNe_int (Hx.typeCall_int_2 _ _) (Hx.newCall_int_2 _ _) (fun obj => F.initArgs_range_2 obj _ _) F.entry_int_new (meets16 h hne) ⟨hn, rfl, hQ⟩
end XB
namespace L2
open PySem PySem.Spec PyProof.Rows
/-- int(text, 16), the text of figures -/
def rInt16 : List V → Hp → VK → Prop := fun xs H Q => ∃ x : Str, xs = [.str x, .int 16] ∧ (∀ c ∈ x.cps.toList, Hx.IsHex c) ∧ x.cps.toList ≠ [] ∧ Q (.int ((Hx.hexNum x.cps.toList : Nat) : Int)) H
theorem call_int16 {X : Cx} (e : PySem.W.nsIn X.K cStatics "sys.int_max_str_digits" = some none) : CallR X (.type "int") rInt16 := by
  intro pins s σ H xs us Q I r h
  obtain ⟨x, rfl, h1, h2, q⟩ := h
  obtain ⟨u, w', rfl, r1, r2⟩ := vals2 r
  obtain ⟨t1, rfl⟩ := r1
  obtain ⟨t2, rfl⟩ := r2
  obtain ⟨mc, G, _⟩ := I.nolimit
  exact XB.call16 (XB.noDigits I.kIn G e) h1 h2 ⟨.int _, H, I.tok _, ⟨_, rfl⟩, q⟩
end L2

/-! an f-string with the field {n:x} -/
namespace XB
open PySem PySem.Calls PySem.W Builtin Builtin.Int Builtin.Float PyProof.Rows

/-- the signs of a number at sixteens, a minus ahead -/
def hexSigns (a : Int) : List Nat := (if decide (a < 0) = true then [45] else []) ++ (Nat.toDigits 16 a.natAbs).map Char.toNat
def hexText (a : Int) : PySem.Str := ⟨(hexSigns a).toArray⟩

theorem toDigits_ne16 (n : Nat) : (Nat.toDigits 16 n).isEmpty = false := by
  cases e : Nat.toDigits 16 n with
  | cons c r => rfl
  | nil => 
    have := Nat.toDigits_ne_nil (n := n) (b := 16)
    exact absurd e this

theorem plainFieldX (f : FormatSpec) (a : Int) (hd : (Nat.toDigits 16 a.natAbs).isEmpty = false) (h1 : f.width = none) (h2 : f.sign = none) (h3 : f.grouping = none) (h4 : f.align = 62) (h5 : f.fill = 32) :
    intField' f (decide (a < 0)) [] ((Nat.toDigits 16 a.natAbs).map fun c => (if (120 : Nat) == 88 then c.toUpper else c).toNat) [] 4 = hexText a := by
  have e0 : ((Nat.toDigits 16 a.natAbs).map fun c => (if (120 : Nat) == 88 then c.toUpper else c).toNat) = (Nat.toDigits 16 a.natAbs).map Char.toNat := rfl
  rw [e0]
  have e1 : ((Nat.toDigits 16 a.natAbs).map Char.toNat).isEmpty = false := by simpa using hd
  unfold intField' hexText hexSigns
  simp only [h1, h2, h3, h4, h5, e1]
  by_cases hn : a < 0
  · simp [hn]
  · simp [hn]

set_option maxHeartbeats 4000000 in
theorem meets_x (a : Int) (t u : Tok) (hl : (hexText a).length ≤ sizeLine) : Meets (Builtin.«int.__format__» ⟨[.int a t, .str (Str.ofString "x") u], []⟩) (fun _ R s => ∀ t' k, R (.ok (.ret (.str (hexText a) t'))) { s with toks := k }) := by
  apply KPc.meets_of
  intro prog w A R s Q hQ
  unfold Builtin.«int.__format__»
  refine wpAny_bind (wpAny_of_eq (a := (_, _)) rfl ?_)
  refine wpAny_bind (wpAny_of_eq (a := a) rfl ?_)
  kxf_if
  refine wpAny_bind (wpAny_typeNameOf (T := "str") (typeIs_str _ _ _) (by decide) fun _ => ?_)
  refine wpAny_bind (wpAny_of_eq (a := some _) rfl ?_)
  kxf_if
  kxf_if
  refine wpAny_bind (wpAny_typeNameOfCut_int ?_)
  have ep : ∃ f, parseFormatSpec (Str.ofString "x").cps.toList "int" 62 = .ok f ∧ f.type = some 120 ∧ f.precision = none ∧ f.noNeg0 = false ∧ f.width = none ∧ f.alt = false ∧ f.sign = none ∧ f.grouping = none ∧ f.align = 62 ∧ f.fill = 32 := ⟨_, rfl, rfl, rfl, rfl, rfl, rfl, rfl, rfl, rfl, rfl⟩
  obtain ⟨f, e0, e1, e2, e3, e4, e5, e6, e7, e8, e9⟩ := ep
  have hf := fun hd => plainFieldX f a hd e4 e6 e7 e8 e9
  have hd := toDigits_ne16 a.natAbs
  rw [e0]
  dsimp only
  rw [e1]
  kxf_if
  cases f
  dsimp only at e1 e2 e3 e4 e5 e6 e7 e8 e9
  subst e1 e2 e3 e4 e5 e6 e7 e8 e9
  exact KXf.ret_text (hf hd) (Nat.le_trans (Nat.le_of_eq (congrArg PySem.Str.length (hf hd))) hl) hQ
theorem field_x {prog : Program} {w : World} {A : Around} {E : Value → Shared → Prop} {s : Shared} {Q : Value → Shared → Prop} {a : Int} {t : Tok} (hl : (hexText a).length ≤ sizeLine)
    (h : ∀ t' k, Q (.str (hexText a) t') { s with toks := k }) : wpAny (model prog w) A (formatField (.int a t) (Str.ofString "x")) Q E s :=
  KXf.field_int rfl (by decide +kernel) (by decide +kernel) (fun u => meets_x a t u hl) h
end XB
namespace L2
open PySem PySem.Spec PyProof.Rows
/-- {n:x}: a whole number at sixteens -/
def tFmtX (te : TE) : TE := fun σ H Q => te σ H fun x H1 => ∃ i : Int, x = .int i ∧ (XB.hexText i).length ≤ sizeLine ∧ Q (.str (XB.hexText i)) H1
theorem pe_fmtX {X : Cx} {e : Expr} {te : TE} {pos p1 p2 : Pos} {k : Nat} (he : PE X e te) : PE X (.FormattedValue e (-1) (some (.JoinedStr [.Constant (.str (Str.ofString "x")) k p1] p2)) pos) (tFmtX te) := by
  refine ⟨fun pins s σ H Q I h => ?_⟩
  refine wpAny_FormattedValue_spec (thn (he.run pins s σ H _ I h) fun v s1 hv => ?_)
  obtain ⟨x, H1, I1, r1, i, rfl, hz, q⟩ := hv
  obtain ⟨t, rfl⟩ := r1
  refine wpAny_JoinedStr_one (Calls.Constant_str ⟨_, _, rfl, ?_⟩)
  exact XB.field_x hz fun t' k' => ⟨.str (XB.hexText i), H1, I1.tok _, ⟨_, rfl⟩, q⟩
end L2

set_option maxHeartbeats 4000000
/-! text.replace(..) of one sign, with the tokens that it asks for; the deeds of a row of signs. -/
namespace XRepl
open PySem PySem.Spec PyProof.Rows PySem.Builtin PySem.Builtin.Str L2 FG CwR XPlan
/-- behind this a token is out -/
def PEK (X : Cx) (e : Expr) (t : TE) : Prop :=
  ∀ (pins : List (Addr × Obj)) (s : Shared) (σ : L2.St) (H : Hp) (Q : VK), Inv X pins σ H s → t σ H Q → wpAny (model X.prog X.w) X.A (eval e X.env) (fun v s1 => 1 ≤ s1.toks ∧ EP X pins σ Q v s1) X.xe s
section
variable {X : Cx} {e : Expr} {te : TE}
theorem pek_tup2 {y z : Str} {j0 j1 : Nat} {c0 c1 pos : Pos} {x1} : PEK X (.Tuple [.Constant (.str y) j0 c0, .Constant (.str z) j1 c1] x1 pos) (tTup (tCons (tC (.str y)) (tCons (tC (.str z)) tNil))) := by
  intro pins s σ H Q I hq
  refine wpAny_Tuple_spliced ?_
  show wpAny _ _ (spliced ((false, eval (.Constant (.str y) j0 c0) X.env) :: backTo pos (starEach [.Constant (.str z) j1 c1] X.env))) _ _ s
  refine Calls.spliced_cons (Calls.Constant_str ?_)
  show wpAny _ _ (spliced ((false, eval (.Constant (.str z) j1 c1) X.env) :: backTo pos (starEach [] X.env))) _ _ _
  refine Calls.spliced_cons (Calls.Constant_str (Calls.spliced_nil ?_))
  obtain ⟨z2, q⟩ := hq
  refine ⟨z2, ?_⟩
  refine ⟨(by show 1 ≤ s.toks + 1 + 1; omega), .ref s.heap.objs.size, upd H s.heap.objs.size (.tup [.str y, .str z]), ?_, rfl, ?_⟩
  · exact I.laid (t' := s.toks + 1 + 1) (fun b u e => Heap.get?_push_of_some _ e) (Nat.le_refl _) ⟨z2, [.str y s.toks, .str z (s.toks + 1)], .cons ⟨_, rfl⟩ (.cons ⟨_, rfl⟩ .nil), ⟨_, Heap.get?_push_size _ rfl, rfl, _, rfl⟩⟩
  · exact q _ (I.hok.fresh (Nat.le_refl _))
theorem pek_ifExp {c a b : Expr} {tA : TT} {ta tb : TE} {pos : Pos} (hc : PT X c tA) (ha : PEK X a ta) (hb : PEK X b tb) : PEK X (.IfExp c a b pos) (tIf tA ta tb) := by
  intro pins s σ H Q I h
  refine wpAny_IfExp (thn (hc.run pins s σ H _ I h) fun d s1 ⟨H1, I1, q1⟩ => ?_)
  cases d with
  | true => exact ha pins s1 σ H1 Q I1 q1
  | false => exact hb pins s1 σ H1 Q I1 q1
theorem pss_asgK {tg : Expr} {rest : List Stmt} {u : TS} {g : TG} {pos : Pos} (he : PEK X e te) (hg : PG X tg g) (h2 : PSsT X rest u) (hs : swapsWithSole [tg] e pos.line X.env = pure false := by rfl) (hw : swappedStores [tg] e X.env = pure none := by rfl)
    (h1 : (assignEach [tg] X.env).map (·.2) = [assign tg X.env] := by rfl) : PSs X (.Assign [tg] e pos :: rest) (tSeq (tAsg te g) u) := by
  refine ⟨fun pins s σ H D I h => ?_⟩
  refine wpAny_execs_cons (wpAny_Assign_stores (thn (he pins s σ H _ I h) fun v s1 ⟨hk, x, H1, I1, r1, q1⟩ => ?_) hs hw)
  rw [h1]
  refine wpAny_mono (PySem.wpAny_toks (hg.run pins s1 σ H1 x v _ I1 r1 q1)) (fun _ s2 q => ?_) fun _ _ z => z.2
  obtain ⟨hk2, σ2, H2, I2, q2⟩ := q
  exact h2 pins s2 σ2 H2 D (Nat.le_trans hk hk2) I2 q2
theorem pst_set {i : Nat} {x : Str} {pos' pos : Pos} (hN : X.N.Nodup) (hi : X.N[i]? = some x) (hx : Loc X.env.scope x) (he : PET X e te) (hs : swapsWith e (some (.Name x pos')) pos.line X.env = pure false := by rfl) (hf : X.fn x = true ∨ X.env.scope.names.lookup x = some .local := by first | exact .inl rfl | exact .inr rfl | assumption) :
    PST X (.Assign [.Name x pos'] e pos) (tAsg te (gName i)) := by
  intro pins s σ H D h0 I h
  refine wpAny_Assign_Name (thn (he pins s σ H _ h0 I h) fun v s1 ⟨y, H1, I1, r1, q1⟩ => ?_) hs
  exact store_ok I1 hN hi hx r1 (fun s2 I2 => ⟨_, H1, I2, q1⟩) hf
/-- e.replace("y", "c" + e2) -/
def tReplA (to : TE) (y c : Str) (t2 : TE) : TE := fun σ H Q => to σ H fun v H1 => ∃ x, v = .str x ∧ t2 σ H1 fun w H2 => ∃ b : Str, w = .str b ∧ 1 ≤ b.length ∧ c.length + b.length ≤ sizeLine ∧ (y == c ++ b) = false ∧ x.length + (x.length + 1) * (c ++ b).length ≤ 16777216 ∧ Q (.str (Txt.replace x y (c ++ b))) H2
theorem pet_replA {o e2 : Expr} {to t2 : TE} {y c : Str} {j k : Nat} {c0 c1 apos pos bpos : Pos} (ho : PET X o to) (h2 : PE X e2 t2) (hc : (c.length == 0) = false := by decide)
    (hst : starEach [.Constant (.str y) j c0, .BinOp (.Constant (.str c) k c1) .Add e2 bpos] X.env = [(false, eval (.Constant (.str y) j c0) X.env), (false, eval (.BinOp (.Constant (.str c) k c1) .Add e2 bpos) X.env)] := by rfl)
    (hbase : attributeBase o "replace" X.env (eval o X.env) = eval o X.env := by rfl) (hline : (apos.endLine == pos.line) = true := by rfl) :
    PET X (.Call (.Attribute o "replace" apos) [.Constant (.str y) j c0, .BinOp (.Constant (.str c) k c1) .Add e2 bpos] [] pos) (tReplA to y c t2) := by
  intro pins s σ H Q h0 I h
  refine PySem.Call_method2 hbase hst hline (wpAny_mono (PySem.wpAny_toks (ho pins s σ H _ h0 I h)) (fun v s1 q => ?_) fun _ _ z => z.2)
  obtain ⟨hk, v', H1, I1, r1, x, e1, q⟩ := q
  subst e1
  obtain ⟨tx, e2⟩ := r1
  subst e2
  refine ⟨"str", _, PySem.F.plainAttrs_str, PySem.F.slot_str_replace, PySem.F.type_str_replace, typeIs_str _ _ _, (fun _ e => nomatch e), Calls.callWith_builtin rfl (Calls.evalArgs_plain (Calls.spliced_cons ?_))⟩
  refine Calls.Constant_str (Calls.spliced_cons (wpAny_BinOp (Calls.Constant_str ?_)))
  refine wpAny_mono (PySem.wpAny_toks (h2.run pins _ σ H1 _ (I1.tok (s1.toks + 1 + 1)) q)) (fun u s2 z => ?_) fun _ _ z => z.2
  obtain ⟨hk2, w', H2, I2, r2, b, e3, hb1, hz, hyz, hb, q⟩ := z
  subst e3
  obtain ⟨tb, e4⟩ := r2
  subst e4
  have hk3 : s1.toks + 1 + 1 ≤ s2.toks := hk2
  refine P.add_str ?_
  rw [hc]
  have hb0 : (b.length == 0) = false := beq_eq_false_iff_ne.mpr (by omega)
  rw [hb0]
  refine ⟨?_, ?_⟩
  · show (c ++ b).cps.size ≤ sizeLine
    have e : (c ++ b).cps = c.cps ++ b.cps := rfl
    rw [e, Array.size_append]
    exact hz
  refine Calls.spliced_nil ?_
  exact PySem.SC.replace (by show s1.toks ≠ 0; omega) (by show s2.toks ≠ 0; omega) (by show s1.toks ≠ s2.toks; omega) hyz hb fun t' k => ⟨.str (Txt.replace x y (c ++ b)), H2, I2.tok k, ⟨t', rfl⟩, q⟩
end
/-! ### what replacing one sign gives -/
/-- each sign c turned into z -/
def each (c : Nat) (z l : List Nat) : List Nat := (l.map fun x => if x = c then z else [x]).flatten
theorem each_cons (c : Nat) (z : List Nat) (x : Nat) (l : List Nat) : each c z (x :: l) = (if x = c then z else [x]) ++ each c z l := rfl
theorem repl_each (c : Nat) (z : List Nat) : ∀ l : List Nat, StrLaws.replL [c] z l = each c z l
  | [] => StrLaws.replL_nil
  | x :: l => by
    have ih := repl_each c z l
    rw [each_cons]
    by_cases h : x = c
    · subst h
      rw [StrLaws.replL_hit (by simp) rfl, if_pos rfl, ← ih]
      rfl
    · rw [StrLaws.replL_miss (by simpa using h), if_neg h, ih]
      rfl
theorem replace_each (x z : Str) (c : Nat) : (Txt.replace x ⟨#[c]⟩ z).cps.toList = each c z.cps.toList x.cps.toList := by
  have h : (1 : Nat) ≤ (⟨#[c]⟩ : Str).length := Nat.le_refl 1
  rw [StrLaws.replace_list h]
  exact repl_each c _ _
/-- the sign of a figure: 2 for -1 -/
def ch (n : Int) : Nat := if n = 0 then 48 else if n = 1 then 49 else 50
theorem each_fig (up down : Nat) (hu : up = 117 ∨ up = 119) (n : Int) : each 50 [100, down] (each 49 [100, up] (each 48 [100] [ch n])) = figD up down n := by
  unfold ch figD
  by_cases h0 : n = 0
  · rw [if_pos h0, if_pos h0]
    rfl
  · rw [if_neg h0, if_neg h0]
    by_cases h1 : n = 1
    · rw [if_pos h1, if_pos h1]
      rcases hu with rfl | rfl <;> rfl
    · rw [if_neg h1, if_neg h1]
      rfl
theorem each_app (c : Nat) (z a b : List Nat) : each c z (a ++ b) = each c z a ++ each c z b := by
  unfold each
  rw [List.map_append, List.flatten_append]
theorem each_row (up down : Nat) (hu : up = 117 ∨ up = 119) : ∀ l : List Int, each 50 [100, down] (each 49 [100, up] (each 48 [100] (l.map ch))) = (l.map (figD up down)).flatten
  | [] => rfl
  | n :: l => by
    have ih := each_row up down hu l
    have e : (n :: l).map ch = [ch n] ++ l.map ch := rfl
    rw [e, each_app, each_app, each_app, ih, each_fig up down hu]
    rfl
theorem each_len (c : Nat) (z : List Nat) : ∀ l : List Nat, (each c z l).length ≤ (z.length + 1) * l.length
  | [] => Nat.zero_le _
  | x :: l => by
    have ih := each_len c z l
    rw [each_cons, List.length_append, List.length_cons, Nat.mul_add]
    split
    · omega
    · simp only [List.length_cons, List.length_nil]
      omega
theorem each_size {x y : Str} {c : Nat} {z : List Nat} (h : y.cps.toList = each c z x.cps.toList) : y.length ≤ (z.length + 1) * x.length := by
  have a := each_len c z x.cps.toList
  rw [← h] at a
  have e1 : y.cps.toList.length = y.length := Array.length_toList
  have e2 : x.cps.toList.length = x.length := Array.length_toList
  rwa [e1, e2] at a
end XRepl

set_option maxHeartbeats 4000000
/-! binary places read at sixteens: two numbers' places told at once. -/
namespace XHexRow
open PySem PyProof.Rows L2 FG XRepl XParts
open PySem.Builtin (bitAnd bitOr bitXor bitNot)
theorem hexNum_snoc (l : List Nat) (c : Nat) : Hx.hexNum (l ++ [c]) = 16 * Hx.hexNum l + Hx.hv c := by
  unfold Hx.hexNum
  rw [List.foldl_append]
  show _ * 16 + _ = _
  omega
/-- binary places read at sixteens -/
def spread (x : Nat) : Nat := Hx.hexNum (digs x).reverse
theorem spread_small {x : Nat} (h : x < 2) : spread x = x := by
  unfold spread
  rw [digs_small h]
  have c : x = 0 ∨ x = 1 := by omega
  rcases c with rfl | rfl <;> rfl
theorem spread_eq (x : Nat) : spread x = 16 * spread (x / 2) + x % 2 := by
  by_cases h : x < 2
  · have e : x / 2 = 0 := by omega
    rw [e, spread_small h, spread_small (by omega)]
    omega
  · unfold spread
    rw [digs_step (by omega), List.reverse_cons, hexNum_snoc]
    have c : x % 2 = 0 ∨ x % 2 = 1 := by omega
    rcases c with e | e <;> rw [e] <;> rfl
theorem spread_ge (x : Nat) : x ≤ spread x := by
  induction x using Nat.strongRecOn with
  | _ x ih =>
    by_cases h : x < 2
    · rw [spread_small h]
      exact Nat.le_refl _
    · have := ih (x / 2) (by omega)
      rw [spread_eq]
      omega
/-- the places of two numbers, told at once -/
def comb (a b : Nat) : Nat := spread a + 2 * spread b
theorem comb_eq (a b : Nat) : comb a b = 16 * comb (a / 2) (b / 2) + (a % 2 + 2 * (b % 2)) := by
  unfold comb
  have e1 := spread_eq a
  have e2 := spread_eq b
  omega
theorem bin_read (x : Nat) : Hx.hexNum (XB.binText (x : Int)).cps.toList = spread x := by
  rw [binText_list]
  rfl
theorem bin_hex (x : Nat) : (∀ c ∈ (XB.binText (x : Int)).cps.toList, Hx.IsHex c) ∧ (XB.binText (x : Int)).cps.toList ≠ [] := by
  rw [binText_list]
  constructor
  · intro c hc
    have := digs_head x c (List.mem_reverse.mp hc)
    exact .inl ⟨by omega, by omega⟩
  · intro e
    have e2 := congrArg List.length e
    rw [List.length_reverse] at e2
    by_cases h : x < 2
    · rw [digs_small h] at e2
      cases e2
    · rw [digs_step (by omega)] at e2
      cases e2
def hdigs (x : Nat) : List Nat := ((Nat.toDigits 16 x).map Char.toNat).reverse
theorem hdigs_small {x : Nat} (h : x < 3) : hdigs x = [x + 48] := by
  unfold hdigs
  rw [Nat.toDigits_of_lt_base (by omega)]
  have c : x = 0 ∨ x = 1 ∨ x = 2 := by omega
  rcases c with e | e | e <;> subst e <;> rfl
theorem hdigs_step {x : Nat} (h : 16 ≤ x) (h3 : x % 16 < 3) : hdigs x = (x % 16 + 48) :: hdigs (x / 16) := by
  have e := @Nat.toDigits_append_toDigits 16 (x / 16) (x % 16) (by decide) (by omega) (by omega)
  have e2 : 16 * (x / 16) + x % 16 = x := by omega
  rw [e2] at e
  have e3 := hdigs_small (x := x % 16) h3
  unfold hdigs at e3 ⊢
  rw [← e, List.map_append, List.reverse_append, e3]
  rfl
theorem hexText_list (x : Nat) : (XB.hexText (x : Int)).cps.toList = (hdigs x).reverse := by
  unfold XB.hexText XB.hexSigns hdigs
  have h : decide (((x : Nat) : Int) < 0) = false := decide_eq_false (by omega)
  rw [h]
  simp
theorem hexText_len (x : Nat) : (XB.hexText (x : Int)).length = (hdigs x).length := by
  have := congrArg List.length (hexText_list x)
  rw [Array.length_toList, List.length_reverse] at this
  exact this
/-! ### told at once -/
theorem fig_ch (u v : Int) : ((((u % 2) * ((u + v) % 2)).toNat + 2 * ((v % 2) * ((u + v) % 2)).toNat) + 48 = ch (u % 2 - v % 2)) ∧ (((u % 2) * ((u + v) % 2)).toNat + 2 * ((v % 2) * ((u + v) % 2)).toNat) < 3 := by
  have z : (u + v) % 2 = (u % 2 + v % 2) % 2 := by omega
  rw [z]
  rcases bit01 u with p | p <;> rcases bit01 v with q | q <;> rw [p, q] <;> exact ⟨by decide, by decide⟩
/-- told at once at sixteens they are the figures' signs -/
theorem hex_dig : ∀ (L : Nat) (u v : Int), 2 ^ L ≤ bitXor u v → bitXor u v < 2 ^ (L + 1) →
    hdigs (comb (bitAnd u (bitXor u v)).toNat (bitAnd v (bitXor u v)).toNat) = (dig (L + 1) u v).map ch
  | 0, u, v, h0, h1 => by
    have e0 : (2 : Int) ^ 0 = 1 := rfl
    have e1 : (2 : Int) ^ 1 = 2 := rfl
    have h := parts_sum 1 u v (by omega) (by omega)
    have a1 := and_bounds (x := u) (y := bitXor u v) (by omega)
    have b1 := and_bounds (x := v) (y := bitXor u v) (by omega)
    obtain ⟨_, _, c, d⟩ := parts_half u v (by omega)
    obtain ⟨k1, k2⟩ := fig_ch u v
    generalize bitAnd u (bitXor u v) = A at *
    generalize bitAnd v (bitXor u v) = B at *
    have ec : comb A.toNat B.toNat = ((u % 2) * ((u + v) % 2)).toNat + 2 * ((v % 2) * ((u + v) % 2)).toNat := by
      unfold comb
      rw [spread_small (by omega), spread_small (by omega)]
      omega
    rw [ec, hdigs_small k2, k1]
    rfl
  | L + 1, u, v, h0, h1 => by
    have hx := xor_div u v
    have e1 : (2 : Int) ^ (L + 1) = 2 * 2 ^ L := by rw [Int.pow_succ, Int.mul_comm]
    have e2 : (2 : Int) ^ (L + 1 + 1) = 2 * 2 ^ (L + 1) := by rw [Int.pow_succ, Int.mul_comm]
    have p0 : (0 : Int) < 2 ^ L := Int.pow_pos (by omega)
    have x0 : 0 ≤ bitXor u v := by omega
    obtain ⟨a, b, c, d⟩ := parts_half u v x0
    have ih := hex_dig L (u / 2) (v / 2) (by omega) (by omega)
    have a1 := and_bounds (x := u) x0
    have b1 := and_bounds (x := v) x0
    have hs := parts_sum (L + 1 + 1) u v x0 h1
    obtain ⟨k1, k2⟩ := fig_ch u v
    have f1 : (bitAnd u (bitXor u v)).toNat / 2 = (bitAnd (u / 2) (bitXor (u / 2) (v / 2))).toNat := by omega
    have f2 : (bitAnd v (bitXor u v)).toNat / 2 = (bitAnd (v / 2) (bitXor (u / 2) (v / 2))).toNat := by omega
    have f3 : (bitAnd u (bitXor u v)).toNat % 2 = ((u % 2) * ((u + v) % 2)).toNat := by omega
    have f4 : (bitAnd v (bitXor u v)).toNat % 2 = ((v % 2) * ((u + v) % 2)).toNat := by omega
    have ec := comb_eq (bitAnd u (bitXor u v)).toNat (bitAnd v (bitXor u v)).toNat
    rw [f1, f2, f3, f4] at ec
    have g1 := spread_ge (bitAnd (u / 2) (bitXor (u / 2) (v / 2))).toNat
    have g2 := spread_ge (bitAnd (v / 2) (bitXor (u / 2) (v / 2))).toNat
    have gc : (bitAnd (u / 2) (bitXor (u / 2) (v / 2))).toNat + (bitAnd (v / 2) (bitXor (u / 2) (v / 2))).toNat ≤ comb (bitAnd (u / 2) (bitXor (u / 2) (v / 2))).toNat (bitAnd (v / 2) (bitXor (u / 2) (v / 2))).toNat := by
      unfold comb
      omega
    have big : 1 ≤ (bitAnd (u / 2) (bitXor (u / 2) (v / 2))).toNat + (bitAnd (v / 2) (bitXor (u / 2) (v / 2))).toNat := by
      have hs2 := parts_sum (L + 1) (u / 2) (v / 2) (by omega) (by omega)
      have a4 := and_bounds (x := u / 2) (y := bitXor (u / 2) (v / 2)) (by omega)
      have b4 := and_bounds (x := v / 2) (y := bitXor (u / 2) (v / 2)) (by omega)
      omega
    show _ = ch (u % 2 - v % 2) :: (dig (L + 1) (u / 2) (v / 2)).map ch
    rw [← ih, ← k1]
    generalize comb (bitAnd (u / 2) (bitXor (u / 2) (v / 2))).toNat (bitAnd (v / 2) (bitXor (u / 2) (v / 2))).toNat = Z at *
    generalize ((u % 2) * ((u + v) % 2)).toNat + 2 * ((v % 2) * ((u + v) % 2)).toNat = Y at *
    rw [ec, hdigs_step (by omega) (by omega)]
    have m1 : (16 * Z + Y) % 16 = Y := by omega
    have m2 : (16 * Z + Y) / 16 = Z := by omega
    rw [m1, m2]
theorem ch_figs (n : Int) : ch n = 48 ∨ ch n = 49 ∨ ch n = 50 := by
  unfold ch
  split
  · exact .inl rfl
  · split
    · exact .inr (.inl rfl)
    · exact .inr (.inr rfl)
/-- filled up with 0 -/
theorem zfill_plain {x : Str} (h : ∀ c ∈ x.cps.toList, 48 ≤ c) (m : Nat) : (Txt.zfill x (m : Int)).cps.toList = List.replicate (m - x.length) 48 ++ x.cps.toList := by
  unfold Txt.zfill
  by_cases hc : (m : Int) ≤ (x.length : Int)
  · rw [if_pos hc]
    have : m - x.length = 0 := by omega
    rw [this]
    rfl
  · rw [if_neg hc]
    have first : ∀ c, x.cps[0]? = some c → 48 ≤ c := fun c hc => by
      rw [← Array.getElem?_toList] at hc
      exact h c (List.mem_of_getElem? hc)
    have eP : zfilled x (((m : Int)).toNat - x.length) = Builtin.Str.padded x (((m : Int)).toNat - x.length) 0 48 := by
      unfold zfilled
      split
      · rename_i e
        have := first _ e
        omega
      · rename_i e
        have := first _ e
        omega
      · rfl
    rw [eP, Int.toNat_natCast]
    unfold Builtin.Str.padded
    simp
/-- what the two parts of a number are, and the signs of its lean row -/
theorem row_text {n : Int} {N : Nat} (h : n.natAbs < 2 ^ N) (m : Nat) (hm : 1 ≤ m) :
    ∃ r : List Int, Row r ∧ gaps r = true ∧ val r = n ∧ r.length ≤ N + 1 ∧
      (hdigs (comb (bitAnd (n + n / 2) (bitXor (n + n / 2) (n / 2))).toNat (bitAnd (n / 2) (bitXor (n + n / 2) (n / 2))).toNat)).length ≤ N + 1 ∧
      (Txt.zfill (XB.hexText ((comb (bitAnd (n + n / 2) (bitXor (n + n / 2) (n / 2))).toNat (bitAnd (n / 2) (bitXor (n + n / 2) (n / 2))).toNat : Nat) : Int)) (m : Int)).cps.toList = ((r ++ List.replicate (m - r.length) 0).map ch).reverse := by
  by_cases h0 : n = 0
  · subst h0
    have ec : comb (bitAnd (0 + 0 / 2) (bitXor (0 + 0 / 2) (0 / 2))).toNat (bitAnd (0 / 2) (bitXor (0 + 0 / 2) (0 / 2))).toNat = 0 := by decide +kernel
    rw [ec]
    refine ⟨[], ⟨(fun _ hm => nomatch hm), fun z => nomatch z⟩, rfl, rfl, Nat.zero_le _, ?_, ?_⟩
    · rw [hdigs_small (by omega)]
      exact Nat.succ_le_succ (Nat.zero_le _)
    · have el := hexText_list 0
      rw [hdigs_small (by omega)] at el
      rw [zfill_plain (fun c hc => by rw [el] at hc; have := List.mem_singleton.mp hc; omega), hexText_len, el, hdigs_small (by omega), List.nil_append, List.map_replicate, List.reverse_replicate]
      show List.replicate (m - 1) 48 ++ [48] = List.replicate (m - 0) 48
      rw [← List.replicate_succ', show m - 1 + 1 = m - 0 by omega]
  · obtain ⟨L, hb, hL, ha, hd, rr, rg, rv⟩ := lean_row h0 h
    obtain ⟨x0, x1⟩ := lean_facts h
    have hX : Builtin.Int.intBits (bitXor (n + n / 2) (n / 2)) = L + 1 := hb
    have xn : bitXor (n + n / 2) (n / 2) ≠ 0 := fun e => by
      have := xor_zero _ _ _ (Nat.le_refl _) e
      omega
    have hb2 : Builtin.Int.intBits (bitXor (n + n / 2) (n / 2)) = (bitXor (n + n / 2) (n / 2)).natAbs.log2 + 1 := by
      unfold Builtin.Int.intBits
      rw [if_neg (by simpa using xn)]
    have hx' : (bitXor (n + n / 2) (n / 2)).natAbs ≠ 0 := by omega
    have l1 := Nat.log2_self_le hx'
    have l2 : (bitXor (n + n / 2) (n / 2)).natAbs < 2 ^ ((bitXor (n + n / 2) (n / 2)).natAbs.log2 + 1) := (Nat.log2_lt hx').mp (Nat.lt_succ_self _)
    have el : (bitXor (n + n / 2) (n / 2)).natAbs.log2 = L := by omega
    rw [el] at l1 l2
    have c1 : ((2 ^ L : Nat) : Int) = (2 : Int) ^ L := Int.natCast_pow 2 L
    have c2 : ((2 ^ (L + 1) : Nat) : Int) = (2 : Int) ^ (L + 1) := Int.natCast_pow 2 (L + 1)
    have hd := hex_dig L (n + n / 2) (n / 2) (by omega) (by omega)
    have dl := dig_len (L + 1) (n + n / 2) (n / 2)
    refine ⟨_, rr, rg, rv, by omega, ?_, ?_⟩
    · rw [hd, List.length_map]
      omega
    · have et := hexText_list (comb (bitAnd (n + n / 2) (bitXor (n + n / 2) (n / 2))).toNat (bitAnd (n / 2) (bitXor (n + n / 2) (n / 2))).toNat)
      have en := hexText_len (comb (bitAnd (n + n / 2) (bitXor (n + n / 2) (n / 2))).toNat (bitAnd (n / 2) (bitXor (n + n / 2) (n / 2))).toNat)
      rw [hd] at et en
      rw [zfill_plain (fun c hc => by
        rw [et] at hc
        obtain ⟨x, _, rfl⟩ := List.mem_map.mp (List.mem_reverse.mp hc)
        have := ch_figs x
        omega), et, en, List.length_map, List.map_append, List.reverse_append, List.map_replicate, List.reverse_replicate]
      rfl
end XHexRow

set_option maxHeartbeats 4000000
/-! which doublings lead to the least deeds, straight from the costs: numbers and rows alone -/
namespace XPick
open PySem FG XDeeds XLeast XPlan
theorem lean_some (x : Nat) : ∃ r, Row r ∧ gaps r = true ∧ val r = (x : Int) := by
  by_cases h : x = 0
  · subst h
    exact ⟨[], ⟨(fun _ hm => nomatch hm), fun z => nomatch z⟩, rfl, rfl⟩
  · obtain ⟨L, _, _, _, _, rr, rg, rv⟩ := lean_row (n := (x : Int)) (by omega) (N := x) (by rw [Int.natAbs_natCast]; exact Nat.lt_two_pow_self)
    exact ⟨_, rr, rg, rv⟩
theorem lean_short {r : List Int} {x d : Nat} (rr : Row r) (rg : gaps r = true) (rv : val r = (x : Int)) (hx : x < 2 ^ d) : r.length ≤ d + 1 := by
  by_cases h : x = 0
  · subst h
    cases r with
    | nil => exact Nat.zero_le _
    | cons a t => exact absurd rv (val_ne (a :: t) rr.1 rr.2 (by simp))
  · obtain ⟨L, _, hL, _, _, r2, g2, v2⟩ := lean_row (n := (x : Int)) (by omega) (N := d) (by rw [Int.natAbs_natCast]; exact hx)
    have e := lean_only r _ rr r2 rg g2 (by rw [rv, v2])
    rw [e, dig_len]
    exact hL
/-- the topmost figure of a row that is worth no less than 0 is 1 -/
theorem top_one {r : List Int} (hr : Row r) (hne : r ≠ []) (hv : 0 ≤ val r) : ∃ s, r = s ++ [1] := by
  obtain ⟨t, ht⟩ : ∃ t, r.getLast? = some t := by
    cases e : r.getLast? with
    | none => exact absurd (List.getLast?_eq_none_iff.mp e) hne
    | some t => exact ⟨t, rfl⟩
  have t0 : t ≠ 0 := by
    intro e
    rw [e] at ht
    exact hr.2 ht
  have sp := last_split ht
  have tb := hr.1 t (List.mem_of_getLast? ht)
  have ab := val_abs r.dropLast fun x hx => hr.1 x (List.dropLast_subset _ hx)
  have c : t = 1 ∨ t = -1 := by omega
  rcases c with e | e
  · subst e
    exact ⟨_, sp⟩
  · subst e
    have vr : val r = val r.dropLast + 2 ^ r.dropLast.length * -1 := by
      have := congrArg val sp
      rw [val_append] at this
      rw [this]
      show val r.dropLast + 2 ^ r.dropLast.length * (-1 + 2 * 0) = _
      simp
    have c1 : ((2 ^ r.dropLast.length : Nat) : Int) = (2 : Int) ^ r.dropLast.length := Int.natCast_pow 2 _
    rw [← c1] at vr
    omega
/-- of a lean row, what stands below its topmost figure ends with 0 -/
theorem below_top {s : List Int} (hg : gaps (s ++ [1]) = true) (hs : s ≠ []) : ∃ t, s = t ++ [0] := by
  obtain ⟨x, hx⟩ : ∃ x, s.getLast? = some x := by
    cases e : s.getLast? with
    | none => exact absurd (List.getLast?_eq_none_iff.mp e) hs
    | some t => exact ⟨t, rfl⟩
  have sp := last_split hx
  by_cases h0 : x = 0
  · subst h0
    exact ⟨_, sp⟩
  · exfalso
    rw [sp, List.append_assoc] at hg
    have := gaps_right _ hg
    have h2 : gaps [x, 1] = true := this
    have h3 : ((decide (x = 0) || decide ((1 : Int) = 0)) && true) = true := h2
    simp [h0] at h3
theorem fig_app {a b : List Int} (ha : ∀ x ∈ a, -1 ≤ x ∧ x ≤ 1) (hb : ∀ x ∈ b, -1 ≤ x ∧ x ≤ 1) : ∀ x ∈ a ++ b, -1 ≤ x ∧ x ≤ 1 := fun x hx => by
  rcases List.mem_append.mp hx with m | m
  · exact ha x m
  · exact hb x m
theorem val_snoc (s : List Int) (x : Int) : val (s ++ [x]) = val s + 2 ^ s.length * x := by
  rw [val_append]
  show _ + 2 ^ s.length * (x + 2 * 0) = _
  simp
/-- a 1 at the place above, where the topmost figure is at the place d itself -/
theorem carry_on {s : List Int} (hr : Row (s ++ [1])) (hg : gaps (s ++ [1]) = true) (hs : s ≠ []) :
    Row (s ++ [0, 1]) ∧ gaps (s ++ [0, 1]) = true ∧ val (s ++ [0, 1]) = val (s ++ [1]) + 2 ^ s.length ∧ nz (s ++ [0, 1]) = nz (s ++ [1]) := by
  refine ⟨⟨fig_app (fun x hx => hr.1 x (List.mem_append_left _ hx)) (by simp), by simp⟩, ?_, ?_, ?_⟩
  · exact gaps_mid s (gaps_left s hg) rfl
  · rw [val_snoc, val_append]
    show val s + 2 ^ s.length * (0 + 2 * (1 + 2 * 0)) = _
    omega
  · rw [nz_append, nz_append]
    rfl
/-- a 1 at the place d, where the row ends below it -/
theorem put_above {r : List Int} {d : Nat} (hr : Row r) (hg : gaps r = true) (hv : 0 ≤ val r) (hl : r.length ≤ d) :
    ∃ t, Row t ∧ gaps t = true ∧ val t = val r + 2 ^ d ∧ nz t = nz r + 1 := by
  by_cases h : r = []
  · subst h
    refine ⟨List.replicate d 0 ++ [1], ⟨fig_app (fun x hx => by have := (List.mem_replicate.mp hx).2; omega) (by simp), by simp⟩, gaps_zeros d rfl, ?_, ?_⟩
    · rw [val_snoc, val_zeros, List.length_replicate]
      show 0 + 2 ^ d * 1 = 0 + 2 ^ d
      simp
    · rw [nz_append, nz_zeros]
      rfl
  · obtain ⟨s, rfl⟩ := top_one hr h hv
    rw [List.length_append, List.length_singleton] at hl
    by_cases hd : s.length + 1 = d
    · refine ⟨s ++ [-1, 0, 1], ⟨fig_app (fun x hx => hr.1 x (List.mem_append_left _ hx)) (by simp), by simp⟩, ?_, ?_, ?_⟩
      · by_cases hs : s = []
        · subst hs
          rfl
        · obtain ⟨t, rfl⟩ := below_top hg hs
          rw [List.append_assoc]
          refine gaps_mid t ?_ rfl
          rw [List.append_assoc] at hg
          exact gaps_left t hg
      · rw [val_snoc, val_append, ← hd, Int.pow_succ]
        show val s + 2 ^ s.length * (-1 + 2 * (0 + 2 * (1 + 2 * 0))) = _
        omega
      · rw [nz_append, nz_append]
        rfl
    · refine ⟨(s ++ [1]) ++ (List.replicate (d - (s.length + 1)) 0 ++ [1]), ⟨fig_app hr.1 (fig_app (fun x hx => by have := (List.mem_replicate.mp hx).2; omega) (by simp)), by rw [← List.append_assoc, List.getLast?_concat]; simp⟩, ?_, ?_, ?_⟩
      · obtain ⟨k, hk⟩ : ∃ k, d - (s.length + 1) = k + 1 := ⟨d - (s.length + 1) - 1, by omega⟩
        rw [hk, List.replicate_succ, List.cons_append]
        exact gaps_mid _ hg (gaps_zeros (k + 1) rfl)
      · rw [val_append, val_snoc (List.replicate _ _), val_zeros, List.length_replicate, List.length_append, List.length_singleton]
        have e : (2 : Int) ^ d = 2 ^ (s.length + 1) * 2 ^ (d - (s.length + 1)) := by
          rw [← Int.pow_add]
          congr 1
          omega
        rw [e]
        simp
      · rw [nz_append, nz_append (List.replicate _ _), nz_zeros]
        show _ + (0 + 1) = _
        omega
/-- the lean row of x has a figure at the place d -/
def carry (x d : Nat) : Prop := ∃ r, Row r ∧ gaps r = true ∧ val r = (x : Int) ∧ d < r.length
theorem W_row {r : List Int} {x : Nat} (hr : Row r) (hg : gaps r = true) (hv : val r = (x : Int)) : W x = nz r := by
  rw [nz_lean r hr hg, hv, Int.natAbs_natCast]
theorem carry_row {x d : Nat} (hx : x < 2 ^ d) (h : carry x d) : ∃ s, Row (s ++ [1]) ∧ gaps (s ++ [1]) = true ∧ val (s ++ [1]) = (x : Int) ∧ s.length = d ∧ s ≠ [] := by
  obtain ⟨r, rr, rg, rv, hl⟩ := h
  have hs := lean_short rr rg rv hx
  obtain ⟨s, rfl⟩ := top_one rr (by intro e; rw [e] at hl; cases hl) (by omega)
  rw [List.length_append, List.length_singleton] at hl hs
  refine ⟨s, rr, rg, rv, by omega, ?_⟩
  intro e
  subst e
  have e0 : d = 0 := by
    have : d < ([] : List Int).length + 1 := hl
    simp at this
    omega
  subst e0
  have : val ([] ++ [1]) = 1 := rfl
  rw [this] at rv
  have : (2 : Nat) ^ 0 = 1 := rfl
  omega
theorem W_carry {x d : Nat} (hx : x < 2 ^ d) (h : carry x d) : W (x + 2 ^ d) = W x := by
  obtain ⟨s, rr, rg, rv, hl, hs⟩ := carry_row hx h
  obtain ⟨r2, g2, v2, n2⟩ := carry_on rr rg hs
  have e : val (s ++ [0, 1]) = ((x + 2 ^ d : Nat) : Int) := by
    rw [v2, rv, hl, Int.natCast_add, Int.natCast_pow]
    rfl
  rw [W_row r2 g2 e, W_row rr rg rv, n2]
theorem W_no_carry {x d : Nat} (h : ¬ carry x d) : W (x + 2 ^ d) = W x + 1 := by
  obtain ⟨r, rr, rg, rv⟩ := lean_some x
  have hl : r.length ≤ d := by
    by_cases c : d < r.length
    · exact absurd ⟨r, rr, rg, rv, c⟩ h
    · omega
  obtain ⟨t, r2, g2, v2, n2⟩ := put_above rr rg (by omega) hl
  have e : val t = ((x + 2 ^ d : Nat) : Int) := by
    rw [v2, rv, Int.natCast_add, Int.natCast_pow]
    rfl
  rw [W_row r2 g2 e, W_row rr rg rv, n2]
/-! ### one doubling more -/
variable {D S : Int}
theorem split_more (n e : Nat) : n / 2 ^ e = 2 * (n / 2 ^ (e + 1)) + (n / 2 ^ e) % 2 ∧ n % 2 ^ (e + 1) = n % 2 ^ e + 2 ^ e * ((n / 2 ^ e) % 2) := by
  have h1 : n / 2 ^ (e + 1) = n / 2 ^ e / 2 := by
    rw [Nat.pow_succ, Nat.div_div_eq_div_mul]
  constructor
  · rw [h1]
    omega
  · rw [Nat.pow_succ, Nat.mod_mul]
/-- one doubling more is dearer, where little is left to walk -/
theorem f_more (hS : 1 ≤ S) (hD : 1 ≤ D) {n e h : Nat} (hh : (h : Int) * S ≤ D - 1) (hq : n / 2 ^ e ≤ 2 * h + 1) (hc : ¬ (n / 2 ^ e = 2 * h + 1 ∧ carry (n % 2 ^ e) e)) : f D S n e ≤ f D S n (e + 1) := by
  obtain ⟨s1, s2⟩ := split_more n e
  have hx : n % 2 ^ e < 2 ^ e := Nat.mod_lt _ (Nat.two_pow_pos e)
  unfold f
  have e1 : ((e + 1 : Nat) : Int) * D = (e : Int) * D + D := mul_succ' e D
  rw [e1, s2]
  generalize hX : n % 2 ^ e = x at *
  generalize hQ : n / 2 ^ e = q at *
  generalize hP : n / 2 ^ (e + 1) = p at *
  have ple : p ≤ h := by omega
  have m1 : (p : Int) * S ≤ (h : Int) * S := Int.mul_le_mul_of_nonneg_right (by omega) (by omega)
  rcases Nat.mod_two_eq_zero_or_one q with b | b
  · rw [b, Nat.mul_zero, Nat.add_zero]
    have eq : q = 2 * p := by omega
    subst eq
    have d1 : (((2 * p : Nat) : Int) + (W x : Int)) * S = ((p : Int) + (W x : Int)) * S + (p : Int) * S := by
      rw [← Int.add_mul]
      congr 1
      omega
    rw [d1]
    omega
  · rw [b, Nat.mul_one]
    have eq : q = 2 * p + 1 := by omega
    subst eq
    by_cases c : carry x e
    · rw [W_carry hx c]
      have pl : p + 1 ≤ h := by
        by_cases z : p = h
        · subst z
          exact absurd ⟨rfl, c⟩ hc
        · omega
      have m2 : ((p + 1 : Nat) : Int) * S ≤ (h : Int) * S := Int.mul_le_mul_of_nonneg_right (by omega) (by omega)
      have d1 : (((2 * p + 1 : Nat) : Int) + (W x : Int)) * S = ((p : Int) + (W x : Int)) * S + ((p + 1 : Nat) : Int) * S := by
        rw [← Int.add_mul]
        congr 1
        omega
      rw [d1]
      omega
    · rw [W_no_carry c]
      have d1 : (((2 * p + 1 : Nat) : Int) + (W x : Int)) * S = ((p : Int) + ((W x + 1 : Nat) : Int)) * S + (p : Int) * S := by
        rw [← Int.add_mul]
        congr 1
        omega
      rw [d1]
      omega
/-- but not where a figure of the row makes the first steps one more than lead there at the least cost -/
theorem f_one_more (hS : 1 ≤ S) {n e h : Nat} (hh : D ≤ ((h + 1 : Nat) : Int) * S) (hq : n / 2 ^ e = 2 * h + 1) (hc : carry (n % 2 ^ e) e) : f D S n (e + 1) ≤ f D S n e := by
  obtain ⟨s1, s2⟩ := split_more n e
  have hx : n % 2 ^ e < 2 ^ e := Nat.mod_lt _ (Nat.two_pow_pos e)
  unfold f
  have e1 : ((e + 1 : Nat) : Int) * D = (e : Int) * D + D := mul_succ' e D
  have b : n / 2 ^ e % 2 = 1 := by omega
  rw [e1, s2, b, Nat.mul_one, W_carry hx hc]
  have p : n / 2 ^ (e + 1) = h := by omega
  rw [p, hq]
  have d1 : (((2 * h + 1 : Nat) : Int) + (W (n % 2 ^ e) : Int)) * S = ((h : Int) + (W (n % 2 ^ e) : Int)) * S + ((h + 1 : Nat) : Int) * S := by
    rw [← Int.add_mul]
    congr 1
    omega
  rw [d1]
  omega
/-! ### the doublings that are picked -/
/-- the fewest doublings with no more than 2 * h + 1 steps ahead of them, or one more -/
def Pick (h n d : Nat) : Prop := ∃ e, n / 2 ^ e ≤ 2 * h + 1 ∧ (e = 0 ∨ 2 * h + 1 < n / 2 ^ (e - 1)) ∧
  ((d = e ∧ ¬ (n / 2 ^ e = 2 * h + 1 ∧ carry (n % 2 ^ e) e)) ∨ (d = e + 1 ∧ n / 2 ^ e = 2 * h + 1 ∧ carry (n % 2 ^ e) e))
theorem div_mono (n : Nat) {a b : Nat} (h : a ≤ b) : n / 2 ^ b ≤ n / 2 ^ a := Nat.div_le_div_left (Nat.pow_le_pow_right (by omega) h) (Nat.two_pow_pos a)
theorem fewest_only {h n a b : Nat} (a1 : n / 2 ^ a ≤ 2 * h + 1) (b2 : b = 0 ∨ 2 * h + 1 < n / 2 ^ (b - 1)) : b ≤ a := by
  by_cases c : b ≤ a
  · exact c
  · have := div_mono n (a := a) (b := b - 1) (by omega)
    omega
theorem pick_only {h n d d' : Nat} (p : Pick h n d) (p' : Pick h n d') : d = d' := by
  obtain ⟨e, a1, a2, a3⟩ := p
  obtain ⟨e', b1, b2, b3⟩ := p'
  have ee : e = e' := Nat.le_antisymm (fewest_only b1 a2) (fewest_only a1 b2)
  subst ee
  rcases a3 with ⟨x, y⟩ | ⟨x, y⟩ <;> rcases b3 with ⟨x', y'⟩ | ⟨x', y'⟩
  · omega
  · exact absurd y' y
  · exact absurd y y'
  · omega
theorem pick_small {h n d : Nat} (p : Pick h n d) : n / 2 ^ d ≤ 2 * h + 1 := by
  obtain ⟨e, a1, _, ⟨x, _⟩ | ⟨x, _⟩⟩ := p
  · rw [x]
    exact a1
  · rw [x]
    exact Nat.le_trans (div_mono n (Nat.le_succ e)) a1
theorem pick_places {h n d L : Nat} (p : Pick h n d) (hn : n < 2 ^ L) : d ≤ L + 1 := by
  obtain ⟨e, _, a2, a3⟩ := p
  have he : e ≤ L := by
    rcases a2 with z | z
    · omega
    · by_cases c : e ≤ L
      · exact c
      · have := Nat.div_eq_of_lt (Nat.lt_of_lt_of_le hn (Nat.pow_le_pow_right (show 0 < 2 by omega) (show L ≤ e - 1 by omega)))
        omega
  omega
theorem pick_least {h n d : Nat} (hD : 1 ≤ D) (hS : 1 ≤ S) (eh : ((h : Nat) : Int) = (D - 1) / S) (p : Pick h n d) : f D S n d = g D S n := by
  have m1 : (h : Int) * S ≤ D - 1 := by
    rw [eh]
    exact Int.ediv_mul_le _ (by omega)
  have m2 : D ≤ ((h + 1 : Nat) : Int) * S := by
    have := Int.lt_ediv_add_one_mul_self (D - 1) (show 0 < S by omega)
    rw [← eh] at this
    have e : ((h + 1 : Nat) : Int) = (h : Int) + 1 := by omega
    rw [e]
    omega
  obtain ⟨x, hx, _⟩ := f_some (D := D) (S := S) (by omega) (by omega) n
  have above := f_above (D := D) (S := S) (by omega) (by omega) d n
  obtain ⟨e, a1, a2, a3⟩ := p
  -- the same steps, from the fewest doublings down to fewer
  have down : ∀ k, k ≤ e → f D S n e ≤ f D S n (e - k) := by
    intro k
    induction k with
    | zero => intro _; exact Int.le_refl _
    | succ k ih =>
      intro hk
      have i1 := ih (by omega)
      have e1 : e - k = e - (k + 1) + 1 := by omega
      rw [e1] at i1
      refine Int.le_trans i1 (f_down (by omega) _ _ ?_)
      have q1 : 2 * h + 1 < n / 2 ^ (e - 1) := by
        rcases a2 with z | z
        · omega
        · exact z
      have q2 := div_mono n (a := e - (k + 1)) (b := e - 1) (by omega)
      obtain ⟨s1, _⟩ := split_more n (e - (k + 1))
      have q3 : h + 1 ≤ n / 2 ^ (e - (k + 1) + 1) := by omega
      exact Int.le_trans m2 (Int.mul_le_mul_of_nonneg_right (by omega) (by omega))
  -- and on to more
  have upFrom : ∀ c, n / 2 ^ c ≤ 2 * h + 1 → ¬ (n / 2 ^ c = 2 * h + 1 ∧ carry (n % 2 ^ c) c) → ∀ k, f D S n c ≤ f D S n (c + k) := by
    intro c c1 c2 k
    induction k with
    | zero => exact Int.le_refl _
    | succ k ih =>
      refine Int.le_trans ih (f_more hS hD (h := h) m1 (Nat.le_trans (div_mono n (Nat.le_add_right c k)) c1) ?_)
      by_cases k0 : k = 0
      · subst k0
        exact c2
      · intro z
        obtain ⟨s1, _⟩ := split_more n c
        have := div_mono n (a := c + 1) (b := c + k) (by omega)
        omega
  have least : f D S n d ≤ f D S n x := by
    rcases a3 with ⟨rfl, no⟩ | ⟨rfl, q, c⟩
    · by_cases hxe : x ≤ d
      · have := down (d - x) (by omega)
        rwa [show d - (d - x) = x by omega] at this
      · have := upFrom d a1 no (x - d)
        rwa [show d + (x - d) = x by omega] at this
    · have one := f_one_more (D := D) hS m2 q c
      by_cases hxe : x ≤ e
      · have := down (e - x) (by omega)
        rw [show e - (e - x) = x by omega] at this
        exact Int.le_trans one this
      · obtain ⟨s1, _⟩ := split_more n e
        have := upFrom (e + 1) (by omega) (fun z => by omega) (x - (e + 1))
        rwa [show e + 1 + (x - (e + 1)) = x by omega] at this
  omega
/-- what the lengths of size and most tell -/
theorem pick_from_bits {n h L b : Nat} (hn : 2 * h + 1 < n) (n1 : n < 2 ^ L) (n2 : 2 ^ (L - 1) ≤ n) (h1 : 2 * h + 1 < 2 ^ b) (h2 : 2 ^ (b - 1) ≤ 2 * h + 1) :
    b ≤ L ∧ (n / 2 ^ (L - b) ≤ 2 * h + 1 → (L - b = 0 ∨ 2 * h + 1 < n / 2 ^ (L - b - 1)) ∧ 1 ≤ L - b) ∧ (2 * h + 1 < n / 2 ^ (L - b) → n / 2 ^ (L - b + 1) ≤ 2 * h + 1) := by
  have bL : b ≤ L := by
    by_cases c : b ≤ L
    · exact c
    · have : 2 ^ L ≤ 2 ^ (b - 1) := Nat.pow_le_pow_right (by omega) (by omega)
      omega
  have b1 : 1 ≤ b := by
    by_cases c : b = 0
    · subst c
      have : (2 : Nat) ^ 0 = 1 := rfl
      omega
    · omega
  refine ⟨bL, fun hq => ?_, fun hq => ?_⟩
  · have ne : L - b ≠ 0 := by
      intro z
      rw [z, Nat.pow_zero, Nat.div_one] at hq
      omega
    refine ⟨.inr ?_, by omega⟩
    refine Nat.lt_of_lt_of_le h1 ?_
    refine (Nat.le_div_iff_mul_le (Nat.two_pow_pos _)).mpr ?_
    rw [← Nat.pow_add, show b + (L - b - 1) = L - 1 by omega]
    exact n2
  · have : n / 2 ^ (L - b + 1) < 2 ^ (b - 1) := by
      refine (Nat.div_lt_iff_lt_mul (Nat.two_pow_pos _)).mpr ?_
      rw [← Nat.pow_add, show b - 1 + (L - b + 1) = L by omega]
      exact n1
    omega
/-- the row with a figure at the place d itself, one doubling more -/
theorem plan_more {n e h : Nat} {r : List Int} (rr : Row r) (rg : gaps r = true) (rv : val r = ((n % 2 ^ e : Nat) : Int)) (hl : e < r.length) (hq : n / 2 ^ e = 2 * h + 1) :
    ∃ t, Row t ∧ gaps t = true ∧ val t = ((n % 2 ^ (e + 1) : Nat) : Int) ∧ t.length ≤ e + 1 + 1 ∧ firstOf n t (e + 1) = h + 1 ∧ rowOf t (e + 1) = rowOf r e ++ [0] := by
  have hx : n % 2 ^ e < 2 ^ e := Nat.mod_lt _ (Nat.two_pow_pos e)
  obtain ⟨s, r2, g2, v2, l2, ns⟩ := carry_row hx ⟨r, rr, rg, rv, hl⟩
  have er := lean_only r _ rr r2 rg g2 (by rw [rv, v2])
  subst er
  obtain ⟨r3, g3, v3, _⟩ := carry_on r2 g2 ns
  obtain ⟨s1, s2⟩ := split_more n e
  have b : n / 2 ^ e % 2 = 1 := by omega
  have le : (s ++ [0, 1]).length = e + 2 := by
    rw [List.length_append, l2]
    rfl
  refine ⟨s ++ [0, 1], r3, g3, ?_, by omega, ?_, ?_⟩
  · rw [v3, v2, l2, s2, b, Nat.mul_one, Int.natCast_add, Int.natCast_pow]
    rfl
  · rw [firstOf, if_pos (by omega)]
    omega
  · unfold rowOf
    have e1 : (s ++ [1]).length = e + 1 := by
      rw [List.length_append, l2]
      rfl
    rw [e1, le]
    have z1 : e + 1 - (e + 2) = 0 := by omega
    have z2 : e - (e + 1) = 0 := by omega
    rw [z1, z2, List.replicate_zero, List.append_nil, List.append_nil]
    have t1 : (s ++ [1]).take e = s := by
      rw [← l2]
      simp
    have t2 : (s ++ [0, 1]).take (e + 1) = s ++ [0] := by
      rw [← l2, List.take_append, List.take_of_length_le (Nat.le_succ _)]
      simp
    rw [t1, t2]
end XPick

namespace K10
open PySem PySem.Spec PyProof.Rows L2 FG XLed XDeeds XLeast XPlan XMin XRepl XPick
/-! ### the text -/
def topS (i : Nat) : Stmt := PySem.Challenge.pw_leanfigures_k10_whole_least_deeds.main.body.getD i (.Pass ⟨0, 0, 0, 0⟩)
abbrev t_is_whole : Stmt := topS 6
abbrev p_is_whole : List Str := ["thing"]
theorem sc_is_whole : FnScope ["thing"] p_is_whole (defScope t_is_whole) := ⟨rfl, rfl, rfl, by decide +kernel, rfl, by decide +kernel, by decide +kernel⟩
abbrev t_refuse_no_number : Stmt := topS 7
abbrev p_refuse_no_number : List Str := ["thing"]
theorem sc_refuse_no_number : FnScope ["thing"] p_refuse_no_number (defScope t_refuse_no_number) := ⟨rfl, rfl, rfl, by decide +kernel, rfl, by decide +kernel, by decide +kernel⟩
abbrev t_lean_parts : Stmt := topS 8
abbrev p_lean_parts : List Str := ["number"]
theorem sc_lean_parts : FnScope ["number", "half", "more", "apart"] p_lean_parts (defScope t_lean_parts) := ⟨rfl, rfl, rfl, by decide +kernel, rfl, by decide +kernel, by decide +kernel⟩
abbrev t_led : Stmt := topS 11
abbrev p_led : List Str := ["deeds"]
theorem sc_led : FnScope ["deeds", "part"] p_led (defScope t_led) := ⟨rfl, rfl, rfl, by decide +kernel, rfl, by decide +kernel, by decide +kernel⟩
abbrev t_doubled_between : Stmt := topS 12
abbrev p_doubled_between : List Str := ["balances"]
theorem sc_doubled_between : FnScope ["balances", "doublings", "one", "other"] p_doubled_between (defScope t_doubled_between) := ⟨rfl, rfl, rfl, by decide +kernel, rfl, by decide +kernel, by decide +kernel⟩
abbrev t_cost_of : Stmt := topS 13
abbrev p_cost_of : List Str := ["deeds", "double", "step"]
theorem sc_cost_of : FnScope ["deeds", "double", "step", "doublings"] p_cost_of (defScope t_cost_of) := ⟨rfl, rfl, rfl, by decide +kernel, rfl, by decide +kernel, by decide +kernel⟩
abbrev t_least : Stmt := topS 14
abbrev p_least : List Str := ["number", "double", "step"]
theorem sc_least : FnScope ["number", "double", "step", "up", "down", "first", "row", "deeds"] p_least (defScope t_least) := ⟨rfl, rfl, rfl, by decide +kernel, rfl, by decide +kernel, by decide +kernel⟩
abbrev t_begun : Stmt := topS 15
abbrev p_begun : List Str := ["size", "half"]
theorem sc_begun : FnScope ["size", "half", "most", "doublings", "first", "row"] p_begun (defScope t_begun) := ⟨rfl, rfl, rfl, by decide +kernel, rfl, by decide +kernel, by decide +kernel⟩
abbrev t_digits_of : Stmt := topS 16
abbrev p_digits_of : List Str := ["number", "many"]
theorem sc_digits_of : FnScope ["number", "many", "ups", "downs", "ups_apart", "downs_apart"] p_digits_of (defScope t_digits_of) := ⟨rfl, rfl, rfl, by decide +kernel, rfl, by decide +kernel, by decide +kernel⟩
abbrev t_refuse_no_deeds : Stmt := topS 17
abbrev p_refuse_no_deeds : List Str := ["thing"]
theorem sc_refuse_no_deeds : FnScope ["thing", "sign"] p_refuse_no_deeds (defScope t_refuse_no_deeds) := ⟨rfl, rfl, rfl, by decide +kernel, rfl, by decide +kernel, by decide +kernel⟩
abbrev t_refuse_no_cost : Stmt := topS 18
abbrev p_refuse_no_cost : List Str := ["thing"]
theorem sc_refuse_no_cost : FnScope ["thing"] p_refuse_no_cost (defScope t_refuse_no_cost) := ⟨rfl, rfl, rfl, by decide +kernel, rfl, by decide +kernel, by decide +kernel⟩
abbrev t_Lcell_at : Stmt := topS 20
abbrev p_Lcell_at : List Str := ["_law_script", "_law_k"]
theorem sc_Lcell_at : FnScope ["_law_script", "_law_k"] p_Lcell_at (defScope t_Lcell_at) := ⟨rfl, rfl, rfl, by decide +kernel, rfl, by decide +kernel, by decide +kernel⟩
abbrev t_Lmixed : Stmt := topS 21
abbrev p_Lmixed : List Str := ["_law_cell", "_law_k"]
theorem sc_Lmixed : FnScope ["_law_cell", "_law_k", "_law_number_here"] p_Lmixed (defScope t_Lmixed) := ⟨rfl, rfl, rfl, by decide +kernel, rfl, by decide +kernel, by decide +kernel⟩
abbrev t_Lwhole : Stmt := topS 22
abbrev p_Lwhole : List Str := ["_law_found"]
theorem sc_Lwhole : FnScope ["_law_found"] p_Lwhole (defScope t_Lwhole) := ⟨rfl, rfl, rfl, by decide +kernel, rfl, by decide +kernel, by decide +kernel⟩
abbrev t_Lnumber : Stmt := topS 23
abbrev p_Lnumber : List Str := ["_law_cell"]
theorem sc_Lnumber : FnScope ["_law_cell", "_law_more", "_law_power", "_law_turn", "_law_some", "_law_wide"] p_Lnumber (defScope t_Lnumber) := ⟨rfl, rfl, rfl, by decide +kernel, rfl, by decide +kernel, by decide +kernel⟩
abbrev t_Ltold : Stmt := topS 27
abbrev p_Ltold : List Str := ["_law_number_here", "_law_double", "_law_step"]
theorem sc_Ltold : FnScope ["_law_number_here", "_law_double", "_law_step", "_law_found"] p_Ltold (defScope t_Ltold) := ⟨rfl, rfl, rfl, by decide +kernel, rfl, by decide +kernel, by decide +kernel⟩
abbrev t_Lgreat : Stmt := topS 28
abbrev p_Lgreat : List Str := ["_law_cell"]
theorem sc_Lgreat : FnScope ["_law_cell", "_law_power", "_law_turn"] p_Lgreat (defScope t_Lgreat) := ⟨rfl, rfl, rfl, by decide +kernel, rfl, by decide +kernel, by decide +kernel⟩
abbrev t_Lright : Stmt := topS 29
abbrev p_Lright : List Str := ["_law_number_here", "_law_double", "_law_step"]
theorem sc_Lright : FnScope ["_law_number_here", "_law_double", "_law_step", "_law_costs", "_law_here", "_law_above", "_law_below", "_law_twice", "_law_turned_about", "_law_one"] p_Lright (defScope t_Lright) := ⟨rfl, rfl, rfl, by decide +kernel, rfl, by decide +kernel, by decide +kernel⟩
abbrev t_law : Stmt := topS 30
abbrev p_law : List Str := ["_law_script"]
theorem sc_law : FnScope ["_law_script", "_law_cell", "_law_double", "_law_step", "_law_k", "_law_one", "_law_number_here"] p_law (defScope t_law) := ⟨rfl, rfl, rfl, by decide +kernel, rfl, by decide +kernel, by decide +kernel⟩
/-- what the top has left: where each def stands, and that the built-in names are still the built-in ones -/
structure Txt (K : PySem.W.Frag) (mg : Str → Option Value) where
  a_is_whole : Addr
  d_is_whole : FuncData
  F_is_whole : Fun K "is_whole" "is_whole" t_is_whole a_is_whole d_is_whole
  b_is_whole : Binds K d_is_whole p_is_whole []
  g_is_whole : mg "is_whole" = some (.ref a_is_whole)
  a_refuse_no_number : Addr
  d_refuse_no_number : FuncData
  F_refuse_no_number : Fun K "refuse_no_number" "refuse_no_number" t_refuse_no_number a_refuse_no_number d_refuse_no_number
  b_refuse_no_number : Binds K d_refuse_no_number p_refuse_no_number []
  g_refuse_no_number : mg "refuse_no_number" = some (.ref a_refuse_no_number)
  a_lean_parts : Addr
  d_lean_parts : FuncData
  F_lean_parts : Fun K "lean_parts" "lean_parts" t_lean_parts a_lean_parts d_lean_parts
  b_lean_parts : Binds K d_lean_parts p_lean_parts []
  g_lean_parts : mg "lean_parts" = some (.ref a_lean_parts)
  a_led : Addr
  d_led : FuncData
  F_led : Fun K "led" "led" t_led a_led d_led
  b_led : Binds K d_led p_led []
  g_led : mg "led" = some (.ref a_led)
  a_doubled_between : Addr
  d_doubled_between : FuncData
  F_doubled_between : Fun K "doubled_between" "doubled_between" t_doubled_between a_doubled_between d_doubled_between
  b_doubled_between : Binds K d_doubled_between p_doubled_between []
  g_doubled_between : mg "doubled_between" = some (.ref a_doubled_between)
  a_cost_of : Addr
  d_cost_of : FuncData
  F_cost_of : Fun K "cost_of" "cost_of" t_cost_of a_cost_of d_cost_of
  b_cost_of : Binds K d_cost_of p_cost_of []
  g_cost_of : mg "cost_of" = some (.ref a_cost_of)
  a_least : Addr
  d_least : FuncData
  F_least : Fun K "least" "least" t_least a_least d_least
  b_least : Binds K d_least p_least []
  g_least : mg "least" = some (.ref a_least)
  a_begun : Addr
  d_begun : FuncData
  F_begun : Fun K "begun" "begun" t_begun a_begun d_begun
  b_begun : Binds K d_begun p_begun []
  g_begun : mg "begun" = some (.ref a_begun)
  a_digits_of : Addr
  d_digits_of : FuncData
  F_digits_of : Fun K "digits_of" "digits_of" t_digits_of a_digits_of d_digits_of
  b_digits_of : Binds K d_digits_of p_digits_of []
  g_digits_of : mg "digits_of" = some (.ref a_digits_of)
  a_refuse_no_deeds : Addr
  d_refuse_no_deeds : FuncData
  F_refuse_no_deeds : Fun K "refuse_no_deeds" "refuse_no_deeds" t_refuse_no_deeds a_refuse_no_deeds d_refuse_no_deeds
  b_refuse_no_deeds : Binds K d_refuse_no_deeds p_refuse_no_deeds []
  g_refuse_no_deeds : mg "refuse_no_deeds" = some (.ref a_refuse_no_deeds)
  a_refuse_no_cost : Addr
  d_refuse_no_cost : FuncData
  F_refuse_no_cost : Fun K "refuse_no_cost" "refuse_no_cost" t_refuse_no_cost a_refuse_no_cost d_refuse_no_cost
  b_refuse_no_cost : Binds K d_refuse_no_cost p_refuse_no_cost []
  g_refuse_no_cost : mg "refuse_no_cost" = some (.ref a_refuse_no_cost)
  a_Lcell_at : Addr
  d_Lcell_at : FuncData
  F_Lcell_at : Fun K "_law_cell_at" "_law_cell_at" t_Lcell_at a_Lcell_at d_Lcell_at
  b_Lcell_at : Binds K d_Lcell_at p_Lcell_at []
  g_Lcell_at : mg "_law_cell_at" = some (.ref a_Lcell_at)
  a_Lmixed : Addr
  d_Lmixed : FuncData
  F_Lmixed : Fun K "_law_mixed" "_law_mixed" t_Lmixed a_Lmixed d_Lmixed
  b_Lmixed : Binds K d_Lmixed p_Lmixed []
  g_Lmixed : mg "_law_mixed" = some (.ref a_Lmixed)
  a_Lwhole : Addr
  d_Lwhole : FuncData
  F_Lwhole : Fun K "_law_whole" "_law_whole" t_Lwhole a_Lwhole d_Lwhole
  b_Lwhole : Binds K d_Lwhole p_Lwhole []
  g_Lwhole : mg "_law_whole" = some (.ref a_Lwhole)
  a_Lnumber : Addr
  d_Lnumber : FuncData
  F_Lnumber : Fun K "_law_number" "_law_number" t_Lnumber a_Lnumber d_Lnumber
  b_Lnumber : Binds K d_Lnumber p_Lnumber []
  g_Lnumber : mg "_law_number" = some (.ref a_Lnumber)
  a_Ltold : Addr
  d_Ltold : FuncData
  F_Ltold : Fun K "_law_told" "_law_told" t_Ltold a_Ltold d_Ltold
  b_Ltold : Binds K d_Ltold p_Ltold []
  g_Ltold : mg "_law_told" = some (.ref a_Ltold)
  a_Lgreat : Addr
  d_Lgreat : FuncData
  F_Lgreat : Fun K "_law_great" "_law_great" t_Lgreat a_Lgreat d_Lgreat
  b_Lgreat : Binds K d_Lgreat p_Lgreat []
  g_Lgreat : mg "_law_great" = some (.ref a_Lgreat)
  a_Lright : Addr
  d_Lright : FuncData
  F_Lright : Fun K "_law_right" "_law_right" t_Lright a_Lright d_Lright
  b_Lright : Binds K d_Lright p_Lright []
  g_Lright : mg "_law_right" = some (.ref a_Lright)
  a_law : Addr
  d_law : FuncData
  F_law : Fun K "law" "law" t_law a_law d_law
  b_law : Binds K d_law p_law []
  g_law : mg "law" = some (.ref a_law)
  gl_MOST_COST : ∃ t, mg "MOST_COST" = some (.int 50 t)
  z_isinstance : mg "isinstance" = none
  z_int : mg "int" = none
  z_bool : mg "bool" = none
  z_len : mg "len" = none
  z_zip : mg "zip" = none
  z_abs : mg "abs" = none
  z_str : mg "str" = none
  z_all : mg "all" = none
  z_range : mg "range" = none
  z_tuple : mg "tuple" = none
  z_enumerate : mg "enumerate" = none
  c_LeanError : Addr
  gc_LeanError : mg "LeanError" = some (.ref c_LeanError)
  c_NoNumber : Addr
  gc_NoNumber : mg "NoNumber" = some (.ref c_NoNumber)
  c_NoDeeds : Addr
  gc_NoDeeds : mg "NoDeeds" = some (.ref c_NoDeeds)
  c_NoCost : Addr
  gc_NoCost : mg "NoCost" = some (.ref c_NoCost)
  x_LeanError : PySem.W.excIn K c_LeanError [.type "ValueError", .type "Exception", .type "BaseException", .type "object"] "ValueError.__new__" = true
  kp_LeanError : PySem.W.keepIn K (.ref c_LeanError) = true
  bs_LeanError : PySem.W.subIn K (.ref c_LeanError) (.type "BaseException") = some true
  ve_LeanError : PySem.W.subIn K (.ref c_LeanError) (.type "ValueError") = some true
  ty_LeanError : PySem.W.typeIn K (.ref c_LeanError) = some (.type "type")
  ic_LeanError : PySem.W.isClsIn K c_LeanError = true
  ga_LeanError : PySem.W.findIn K (.ref c_LeanError) "__getattribute__" = some (some (.builtin "BaseException.__getattribute__"))
  gt_LeanError : PySem.W.findIn K (.ref c_LeanError) "__getattr__" = some none
  gk_LeanError : PySem.W.findIn K (.ref c_LeanError) "__class__" = some (some (.builtin "object.__class__"))
  hd_LeanError : PySem.W.hasDictIn K c_LeanError = true
  mo_LeanError : PySem.W.mroIn K c_LeanError (.type "object") = some true
  su_LeanError_LeanError : PySem.W.subIn K (.ref c_LeanError) (.ref c_LeanError) = some true
  su_LeanError_NoNumber : PySem.W.subIn K (.ref c_LeanError) (.ref c_NoNumber) = some false
  su_LeanError_NoDeeds : PySem.W.subIn K (.ref c_LeanError) (.ref c_NoDeeds) = some false
  su_LeanError_NoCost : PySem.W.subIn K (.ref c_LeanError) (.ref c_NoCost) = some false
  x_NoNumber : PySem.W.excIn K c_NoNumber [.type "ValueError", .type "Exception", .type "BaseException", .type "object"] "ValueError.__new__" = true
  kp_NoNumber : PySem.W.keepIn K (.ref c_NoNumber) = true
  bs_NoNumber : PySem.W.subIn K (.ref c_NoNumber) (.type "BaseException") = some true
  ve_NoNumber : PySem.W.subIn K (.ref c_NoNumber) (.type "ValueError") = some true
  ty_NoNumber : PySem.W.typeIn K (.ref c_NoNumber) = some (.type "type")
  ic_NoNumber : PySem.W.isClsIn K c_NoNumber = true
  ga_NoNumber : PySem.W.findIn K (.ref c_NoNumber) "__getattribute__" = some (some (.builtin "BaseException.__getattribute__"))
  gt_NoNumber : PySem.W.findIn K (.ref c_NoNumber) "__getattr__" = some none
  gk_NoNumber : PySem.W.findIn K (.ref c_NoNumber) "__class__" = some (some (.builtin "object.__class__"))
  hd_NoNumber : PySem.W.hasDictIn K c_NoNumber = true
  mo_NoNumber : PySem.W.mroIn K c_NoNumber (.type "object") = some true
  su_NoNumber_LeanError : PySem.W.subIn K (.ref c_NoNumber) (.ref c_LeanError) = some true
  su_NoNumber_NoNumber : PySem.W.subIn K (.ref c_NoNumber) (.ref c_NoNumber) = some true
  su_NoNumber_NoDeeds : PySem.W.subIn K (.ref c_NoNumber) (.ref c_NoDeeds) = some false
  su_NoNumber_NoCost : PySem.W.subIn K (.ref c_NoNumber) (.ref c_NoCost) = some false
  x_NoDeeds : PySem.W.excIn K c_NoDeeds [.type "ValueError", .type "Exception", .type "BaseException", .type "object"] "ValueError.__new__" = true
  kp_NoDeeds : PySem.W.keepIn K (.ref c_NoDeeds) = true
  bs_NoDeeds : PySem.W.subIn K (.ref c_NoDeeds) (.type "BaseException") = some true
  ve_NoDeeds : PySem.W.subIn K (.ref c_NoDeeds) (.type "ValueError") = some true
  ty_NoDeeds : PySem.W.typeIn K (.ref c_NoDeeds) = some (.type "type")
  ic_NoDeeds : PySem.W.isClsIn K c_NoDeeds = true
  ga_NoDeeds : PySem.W.findIn K (.ref c_NoDeeds) "__getattribute__" = some (some (.builtin "BaseException.__getattribute__"))
  gt_NoDeeds : PySem.W.findIn K (.ref c_NoDeeds) "__getattr__" = some none
  gk_NoDeeds : PySem.W.findIn K (.ref c_NoDeeds) "__class__" = some (some (.builtin "object.__class__"))
  hd_NoDeeds : PySem.W.hasDictIn K c_NoDeeds = true
  mo_NoDeeds : PySem.W.mroIn K c_NoDeeds (.type "object") = some true
  su_NoDeeds_LeanError : PySem.W.subIn K (.ref c_NoDeeds) (.ref c_LeanError) = some true
  su_NoDeeds_NoNumber : PySem.W.subIn K (.ref c_NoDeeds) (.ref c_NoNumber) = some false
  su_NoDeeds_NoDeeds : PySem.W.subIn K (.ref c_NoDeeds) (.ref c_NoDeeds) = some true
  su_NoDeeds_NoCost : PySem.W.subIn K (.ref c_NoDeeds) (.ref c_NoCost) = some false
  x_NoCost : PySem.W.excIn K c_NoCost [.type "ValueError", .type "Exception", .type "BaseException", .type "object"] "ValueError.__new__" = true
  kp_NoCost : PySem.W.keepIn K (.ref c_NoCost) = true
  bs_NoCost : PySem.W.subIn K (.ref c_NoCost) (.type "BaseException") = some true
  ve_NoCost : PySem.W.subIn K (.ref c_NoCost) (.type "ValueError") = some true
  ty_NoCost : PySem.W.typeIn K (.ref c_NoCost) = some (.type "type")
  ic_NoCost : PySem.W.isClsIn K c_NoCost = true
  ga_NoCost : PySem.W.findIn K (.ref c_NoCost) "__getattribute__" = some (some (.builtin "BaseException.__getattribute__"))
  gt_NoCost : PySem.W.findIn K (.ref c_NoCost) "__getattr__" = some none
  gk_NoCost : PySem.W.findIn K (.ref c_NoCost) "__class__" = some (some (.builtin "object.__class__"))
  hd_NoCost : PySem.W.hasDictIn K c_NoCost = true
  mo_NoCost : PySem.W.mroIn K c_NoCost (.type "object") = some true
  su_NoCost_LeanError : PySem.W.subIn K (.ref c_NoCost) (.ref c_LeanError) = some true
  su_NoCost_NoNumber : PySem.W.subIn K (.ref c_NoCost) (.ref c_NoNumber) = some false
  su_NoCost_NoDeeds : PySem.W.subIn K (.ref c_NoCost) (.ref c_NoDeeds) = some false
  su_NoCost_NoCost : PySem.W.subIn K (.ref c_NoCost) (.ref c_NoCost) = some true
  sp_class : PySem.W.specialIn K (.builtin "object.__class__") "__get__" = some (some (.builtin "getset_descriptor.__get__"))
  tk_class : PySem.W.takesIn K (.builtin "object.__class__") = some true
  digits : PySem.W.nsIn K cStatics "sys.int_max_str_digits" = some none
section
variable {P : Program} {w : World} {K : PySem.W.Frag} {mg : Str → Option Value} {base : Heap}
/-! ### is_whole -/
def sp_is_whole (K : PySem.W.Frag) : Sp := fun vs H Q _ => ∃ x, vs = [x] ∧ Plain K H x ∧ Q (.bl (intV x)) H
theorem ok_is_whole (T : Txt K mg) : FnOk P w K mg base CX0 1 T.a_is_whole T.d_is_whole p_is_whole (sp_is_whole K) := by
  refine T.F_is_whole.ok sc_is_whole (fun vs H Q E h => ?_) (fun cdv A outer s H vs Q E hr h => ?_)
  · obtain ⟨x, rfl, _⟩ := h
    rfl
  · obtain ⟨x, rfl, ⟨i, b, l, k, e⟩, q⟩ := h
    obtain ⟨t, ty, h1, h2, _⟩ := k.ex
    refine ⟨_, pss_one (ps_ret (pe_and (pe_callB call_isi (by rfl) T.z_isinstance (by decide +kernel) (pa_cons (pv 0) (pa_cons (pe_bltn (v := .ty "int") (by rfl) T.z_int (by decide +kernel) rfl) pa_nil)))
      (pe_one (pe_not (pe_callB call_isi (by rfl) T.z_isinstance (by decide +kernel) (pa_cons (pv 0) (pa_cons (pe_bltn (v := .ty "bool") (by rfl) T.z_bool (by decide +kernel) rfl) pa_nil))))))), ?_⟩
    refine ⟨x, rfl, x, _, t, _, i, rfl, .ty _, ty, h1, i, rfl, ?_⟩
    cases i with
    | true => exact iteT ⟨x, rfl, x, _, t, _, b, rfl, .ty _, ty, h2, b, rfl, by rw [← e] at q; exact q⟩
    | false => exact iteF (by rw [← e] at q; exact q)
/-! ### refuse_no_number, of numbers -/
def sp_refuse_number : Sp := fun vs H Q _ => ∃ n : Int, vs = [.int n] ∧ Q .non H
theorem ok_refuse_no_number (T : Txt K mg) : FnOk P w K mg base CX0 2 T.a_refuse_no_number T.d_refuse_no_number p_refuse_no_number sp_refuse_number := by
  refine T.F_refuse_no_number.ok sc_refuse_no_number (fun vs H Q E h => ?_) (fun cdv A outer s H vs Q E hr h => ?_)
  · obtain ⟨_, rfl, _⟩ := h
    rfl
  · obtain ⟨n, rfl, q⟩ := h
    refine ⟨_, pss_one (ps_if (pt_not (pt_val (pe_call (ok_is_whole T) hr (by rfl) T.g_is_whole T.F_is_whole.kp T.b_is_whole .nil pass0 (pa_cons (pv 0) pa_nil)))) (pss_one ps_never) pss_nil), ?_⟩
    refine ⟨.int n, rfl, .int n, rfl, plain_int n, _, rfl, ?_⟩
    exact iteF q
/-! ### lean_parts -/
def upsOf (n : Int) : Int := PySem.Builtin.bitAnd (n + n / 2) (PySem.Builtin.bitXor (n + n / 2) (n / 2))
def downsOf (n : Int) : Int := PySem.Builtin.bitAnd (n / 2) (PySem.Builtin.bitXor (n + n / 2) (n / 2))
theorem ups_pos (n : Int) : 0 ≤ upsOf n ∧ 0 ≤ downsOf n := by
  obtain ⟨x0, _⟩ := lean_facts (n := n) (N := n.natAbs) Nat.lt_two_pow_self
  exact ⟨(and_bounds x0).1, (and_bounds x0).1⟩
def sp_lean_parts : Sp := fun vs H Q _ => ∃ n : Int, vs = [.int n] ∧ ∀ H' p, Same H H' → H p = none → H' p = some (.tup [.int (upsOf n), .int (downsOf n)]) → Q (.ref p) H'
theorem ok_lean_parts (T : Txt K mg) : FnOk P w K mg base CX0 1 T.a_lean_parts T.d_lean_parts p_lean_parts sp_lean_parts := by
  refine T.F_lean_parts.ok sc_lean_parts (fun vs H Q E h => ?_) (fun cdv A outer s H vs Q E hr h => ?_)
  · obtain ⟨_, rfl, _⟩ := h
    rfl
  · obtain ⟨n, rfl, q⟩ := h
    refine ⟨_, pss_cons (ps_set (i := 1) sc_lean_parts.nd rfl (.inl rfl) (pe_op op_shr (pv 0) pe_int))
      (pss_cons (ps_set (i := 2) sc_lean_parts.nd rfl (.inl rfl) (pe_op op_add (pv 0) (pv 1)))
      (pss_cons (ps_set (i := 3) sc_lean_parts.nd rfl (.inl rfl) (pe_op op_xor (pv 2) (pv 1)))
      (pss_one (ps_ret (pe_tup (pa_cons (pe_op op_and (pv 2) (pv 3)) (pa_cons (pe_op op_and (pv 1) (pv 3)) pa_nil))))))), ?_⟩
    refine ⟨.int n, rfl, _, _, rfl, rfl, (by show (0 : Int) ≤ 1; decide), ?_⟩
    refine ⟨.int n, rfl, .int (n / 2), rfl, _, _, rfl, rfl, ?_⟩
    refine ⟨.int (n + n / 2), rfl, .int (n / 2), rfl, _, _, rfl, rfl, ?_⟩
    refine ⟨.int (n + n / 2), rfl, .int (PySem.Builtin.bitXor (n + n / 2) (n / 2)), rfl, _, _, rfl, rfl, .int (n / 2), rfl, .int (PySem.Builtin.bitXor (n + n / 2) (n / 2)), rfl, _, _, rfl, rfl, (by show 2 ≤ sizeLine; decide), fun p np => ?_⟩
    exact q _ p (same_upd np) np upd_same
/-! ### the law's cell_at -/
def cell (ns : List Int) (k : Nat) : Int := ns.getD k 0
def sp_Lcell_at (K : PySem.W.Frag) : Sp := fun vs H Q _ => ∃ (a : Addr) (ns : List Int) (k : Nat), vs = [.ref a, .int (k : Int)] ∧ SqL K H a (ns.map V.int) ∧ Q (.int (cell ns k)) H
theorem ok_Lcell_at (T : Txt K mg) : FnOk P w K mg base CX0 1 T.a_Lcell_at T.d_Lcell_at p_Lcell_at (sp_Lcell_at K) := by
  refine T.F_Lcell_at.ok sc_Lcell_at (fun vs H Q E h => ?_) (fun cdv A outer s H vs Q E hr h => ?_)
  · obtain ⟨_, _, _, rfl, _⟩ := h
    rfl
  · obtain ⟨a, ns, k, rfl, hS, q⟩ := h
    refine ⟨_, pss_cons (ps_if (pt_cmpR op_lt (pv 1) (pe_callB call_len_seq (by rfl) T.z_len PySem.boot_len (pa_cons (pv 0) pa_nil)) (nomark _)) (pss_one (ps_ret (pe_ix ix_list (pv 0) (pv 1) (fun _ _ => rfl)))) pss_nil)
      (pss_one (ps_ret pe_int)), ?_⟩
    refine ⟨.int k, rfl, .ref a, rfl, a, ns.map V.int, rfl, .inl hS, _, _, rfl, rfl, _, rfl, ite2 (fun c => ?_) (fun c => ?_)⟩
    · have c' : (k : Int) < ((ns.map V.int).length : Int) := of_decide_eq_true c
      rw [List.length_map] at c'
      have hk : k < ns.length := by omega
      have g : (ns.map V.int)[k]? = some (.int ns[k]) := by
        rw [List.getElem?_map, List.getElem?_eq_getElem hk]
        rfl
      refine ⟨.ref a, rfl, .int k, rfl, a, _, (k : Int), .int ns[k], rfl, rfl, hS, atI_nat g, ?_⟩
      have e : cell ns k = ns[k] := by simp [cell, List.getD, hk]
      rw [e] at q
      exact q
    · have c' : ¬ (k : Int) < ((ns.map V.int).length : Int) := fun z => c (decide_eq_true z)
      rw [List.length_map] at c'
      have hk : ns.length ≤ k := by omega
      have e : cell ns k = 0 := by simp [cell, List.getD, hk]
      rw [e] at q
      exact q
/-! ### the law's mixed -/
def mixA (c : Int) : Int := (c % 1000000007 + 1) * 48271 % 2147483647
def mixd (c k : Int) : Int := mixA c * (16807 + 7919 * k * k + 31 * k) % 2147483629 / 7
theorem mixA_b (c : Int) : 0 ≤ mixA c ∧ mixA c < 2147483647 := ⟨Int.emod_nonneg _ (by decide), Int.emod_lt_of_pos _ (by decide)⟩
theorem mixd_b (c k : Int) : 0 ≤ mixd c k ∧ mixd c k < 2147483629 := by
  have h1 := Int.emod_nonneg (mixA c * (16807 + 7919 * k * k + 31 * k)) (show (2147483629 : Int) ≠ 0 by decide)
  have h2 := Int.emod_lt_of_pos (mixA c * (16807 + 7919 * k * k + 31 * k)) (show (0 : Int) < 2147483629 by decide)
  unfold mixd
  omega
def sp_Lmixed (K : PySem.W.Frag) : Sp := fun vs H Q _ => ∃ c k : Int, vs = [.int c, .int k] ∧ 0 ≤ k ∧ k ≤ 1000 ∧ Q (.int (mixd c k)) H
theorem ok_Lmixed (T : Txt K mg) : FnOk P w K mg base CX0 1 T.a_Lmixed T.d_Lmixed p_Lmixed (sp_Lmixed K) := by
  refine T.F_Lmixed.ok sc_Lmixed (fun vs H Q E h => ?_) (fun cdv A outer s H vs Q E hr h => ?_)
  · obtain ⟨_, _, rfl, _⟩ := h
    rfl
  · obtain ⟨c, k, rfl, h0, h1, q⟩ := h
    refine ⟨_, pss_cons (ps_set (i := 2) sc_Lmixed.nd rfl (.inl rfl) (pe_op op_mod (pe_op op_mul (pe_op op_add (pe_op op_mod (pv 0) pe_int) pe_int) pe_int) pe_int))
      (pss_one (ps_ret (pe_op op_fdiv (pe_op op_mod (pe_op op_mul (pv 2) (pe_op op_add (pe_op op_add pe_int (pe_op op_mul (pe_op op_mul pe_int (pv 1)) (pv 1))) (pe_op op_mul pe_int (pv 1)))) pe_int) pe_int))), ?_⟩
    have b1 := Int.emod_nonneg c (show (1000000007 : Int) ≠ 0 by decide)
    have b2 := Int.emod_lt_of_pos c (show (0 : Int) < 1000000007 by decide)
    refine ⟨.int c, rfl, _, _, rfl, rfl, (by show (0 : Int) < 1000000007; decide), _, _, rfl, rfl, _, _, rfl, rfl, .inr (by show -(2 ^ 64 : Int) < 48271 ∧ (48271 : Int) < 2 ^ 64; decide), _, _, rfl, rfl, (by show (0 : Int) < 2147483647; decide), ?_⟩
    have b3 := mixA_b c
    refine ⟨.int (mixA c), rfl, .int k, rfl, _, _, rfl, rfl, .inl (by show -(2 ^ 64 : Int) < 7919 ∧ (7919 : Int) < 2 ^ 64; decide), .int k, rfl, _, _, rfl, rfl, .inr (by show -(2 ^ 64 : Int) < k ∧ k < 2 ^ 64; omega), _, _, rfl, rfl, .int k, rfl, _, _, rfl, rfl, .inl (by show -(2 ^ 64 : Int) < 31 ∧ (31 : Int) < 2 ^ 64; decide),
      _, _, rfl, rfl, _, _, rfl, rfl, .inl (by show -(2 ^ 64 : Int) < mixA c ∧ mixA c < 2 ^ 64; omega), _, _, rfl, rfl, (by show (0 : Int) < 2147483629; decide), _, _, rfl, rfl, ⟨by decide, by decide⟩, ?_⟩
    exact q
/-! ### the law's whole -/
def sp_Lwhole (K : PySem.W.Frag) : Sp := fun vs H Q _ => ∃ x, vs = [x] ∧ Plain K H x ∧ Q (.bl (intV x)) H
theorem ok_Lwhole (T : Txt K mg) : FnOk P w K mg base CX0 1 T.a_Lwhole T.d_Lwhole p_Lwhole (sp_Lwhole K) := by
  refine T.F_Lwhole.ok sc_Lwhole (fun vs H Q E h => ?_) (fun cdv A outer s H vs Q E hr h => ?_)
  · obtain ⟨x, rfl, _⟩ := h
    rfl
  · obtain ⟨x, rfl, ⟨i, b, l, k, e⟩, q⟩ := h
    obtain ⟨t, ty, h1, h2, _⟩ := k.ex
    refine ⟨_, pss_one (ps_ret (pe_and (pe_callB call_isi (by rfl) T.z_isinstance (by decide +kernel) (pa_cons (pv 0) (pa_cons (pe_bltn (v := .ty "int") (by rfl) T.z_int (by decide +kernel) rfl) pa_nil)))
      (pe_one (pe_not (pe_callB call_isi (by rfl) T.z_isinstance (by decide +kernel) (pa_cons (pv 0) (pa_cons (pe_bltn (v := .ty "bool") (by rfl) T.z_bool (by decide +kernel) rfl) pa_nil))))))), ?_⟩
    refine ⟨x, rfl, x, _, t, _, i, rfl, .ty _, ty, h1, i, rfl, ?_⟩
    cases i with
    | true => exact iteT ⟨x, rfl, x, _, t, _, b, rfl, .ty _, ty, h2, b, rfl, by rw [← e] at q; exact q⟩
    | false => exact iteF (by rw [← e] at q; exact q)
/-! ### refuse_no_deeds, refuse_no_cost -/
def sp_deeds_good : Sp := fun vs H Q _ => ∃ z : Str, vs = [.str z] ∧ z.length ≤ 100000 ∧ okS z = true ∧ ∀ H', Same H H' → Q .non H'
theorem ok_deeds_good (T : Txt K mg) : FnOk P w K mg base CX0 1 T.a_refuse_no_deeds T.d_refuse_no_deeds p_refuse_no_deeds sp_deeds_good := by
  refine T.F_refuse_no_deeds.ok sc_refuse_no_deeds (fun vs H Q E h => ?_) (fun cdv A outer s H vs Q E hr h => ?_)
  · obtain ⟨_, rfl, _⟩ := h
    rfl
  · obtain ⟨z, rfl, hl, ok, q⟩ := h
    refine ⟨_, pss_one (ps_if (PW.pt (pw_or (pt_not (pt_val (pe_callB call_isi (by rfl) T.z_isinstance (by decide +kernel) (pa_cons (pv 0) (pa_cons (pe_bltn (v := .ty "str") (by rfl) T.z_str (by decide +kernel) rfl) pa_nil)))))
      (pw_or1 (pt_not (pt_val (pe_callB (cr_all rfl) (by rfl) T.z_all (by decide +kernel) (pa_cons (pe_lc (own := [("sign", 1)]) (g := gName 1) (tt := tYes) (by rfl) sc_refuse_no_deeds.nd (pi_str (pv 0)) (blkOk_by (N := ["thing", "sign"]) (own := [("sign", 1)]) (sc := defScope t_refuse_no_deeds) (by decide +kernel))
          (fun _ _ _ _ _ => pg_name (i := 1) sc_refuse_no_deeds.nd rfl (Or.inl rfl)) (fun _ _ _ _ _ => pts_nil) (fun _ _ _ _ _ => pe_cmpR op_in_sign (pv 1) pe_str (by rfl))) pa_nil))))))) (pss_one ps_never) pss_nil), ?_⟩
    obtain ⟨t, ty, k⟩ := str_ty (K := K) (H := H) z
    refine ⟨.str z, rfl, .str z, _, t, _, true, rfl, .ty _, ty, k, true, rfl, ?_⟩
    refine iteF ⟨.str z, rfl, z, rfl, fun D nD => ?_⟩
    have sz : z.cps.toList.length = z.length := Array.length_toList
    have lim : (200000 : Nat) ≤ sizeLine := by decide
    refine lc_str (fun i Hx => Same H Hx ∧ Hx D = some (.lst (((z.cps.toList.take i).map fun c => decide (c ∈ [100, 117, 119])).map V.bl))) ⟨same_upd nD, upd_same⟩ (fun i c Hx hc e => ?_) (fun Hx e => ?_)
    · obtain ⟨s1, eD⟩ := e
      refine ⟨rfl, .str ⟨#[c]⟩, rfl, c, _, rfl, rfl, _, eD, ?_, fun b u e => ?_, ?_⟩
      · rw [List.length_map, List.length_map, List.length_take]
        omega
      · rw [upd_ne (ne_of_none e nD)]
        exact s1 _ _ e
      · rw [upd_same, List.take_add_one, hc, List.map_append, List.map_append]
        rfl
    · obtain ⟨s1, eD⟩ := e
      rw [List.take_length] at eD
      refine ⟨D, _, rfl, SqL.of eD, _, rfl, ?_⟩
      have ea : ((z.cps.toList.map fun c => decide (c ∈ [100, 117, 119])).all id) = true := by
        rw [List.all_map]
        exact ok
      rw [ea]
      exact iteF (q _ s1)
def sp_deeds_any (K : PySem.W.Frag) (C : Addr) : Sp := fun vs H Q E => ∃ x, vs = [x] ∧ Thing K H x ∧ (okD x = true → ∀ H', Same H H' → Q .non H') ∧ (okD x = false → ∀ H', Same H H' → E (.ref C) none H')
theorem ok_deeds_any (T : Txt K mg) : FnOk P w K mg base (L2.CX P w) 1 T.a_refuse_no_deeds T.d_refuse_no_deeds p_refuse_no_deeds (sp_deeds_any K T.c_NoDeeds) := by
  refine T.F_refuse_no_deeds.okX sc_refuse_no_deeds (fun vs H Q E h => ?_) (fun cdv A outer s H vs Q E hr h => ?_)
  · obtain ⟨_, rfl, _⟩ := h
    rfl
  · obtain ⟨x, rfl, th, q, e⟩ := h
    refine ⟨_, pss_one (ps_if (PW.pt (pw_or (pt_not (pt_val (pe_callB call_isi (by rfl) T.z_isinstance (by decide +kernel) (pa_cons (pv 0) (pa_cons (pe_bltn (v := .ty "str") (by rfl) T.z_str (by decide +kernel) rfl) pa_nil)))))
      (pw_or1 (pt_not (pt_val (pe_callB (cr_all rfl) (by rfl) T.z_all (by decide +kernel) (pa_cons (pe_lc (own := [("sign", 1)]) (g := gName 1) (tt := tYes) (by rfl) sc_refuse_no_deeds.nd (pi_str (pv 0)) (blkOk_by (N := ["thing", "sign"]) (own := [("sign", 1)]) (sc := defScope t_refuse_no_deeds) (by decide +kernel))
          (fun _ _ _ _ _ => pg_name (i := 1) sc_refuse_no_deeds.nd rfl (Or.inl rfl)) (fun _ _ _ _ _ => pts_nil) (fun _ _ _ _ _ => pe_cmpR op_in_sign (pv 1) pe_str (by rfl))) pa_nil)))))))
      (pss_one (ps_raise rfl (takes_of rfl rfl rfl rfl) (pmk_own PySem.F.excBase_ValueError T.x_NoDeeds T.gc_NoDeeds T.kp_NoDeeds (raises_own T.bs_NoDeeds T.ty_NoDeeds) (by rfl)))) pss_nil), ?_⟩
    rcases th with ⟨z, rfl, hl⟩ | ⟨no, t, ty, k⟩
    · obtain ⟨t, ty, k⟩ := str_ty (K := K) (H := H) z
      refine ⟨.str z, rfl, .str z, _, t, _, true, rfl, .ty _, ty, k, true, rfl, ?_⟩
      refine iteF ⟨.str z, rfl, z, rfl, fun D nD => ?_⟩
      have sz : z.cps.toList.length = z.length := Array.length_toList
      have lim : (200000 : Nat) ≤ sizeLine := by decide
      refine lc_str (fun i Hx => Same H Hx ∧ Hx D = some (.lst (((z.cps.toList.take i).map fun c => decide (c ∈ [100, 117, 119])).map V.bl))) ⟨same_upd nD, upd_same⟩ (fun i c Hx hc e => ?_) (fun Hx e2 => ?_)
      · obtain ⟨s1, eD⟩ := e
        refine ⟨rfl, .str ⟨#[c]⟩, rfl, c, _, rfl, rfl, _, eD, ?_, fun b u e => ?_, ?_⟩
        · rw [List.length_map, List.length_map, List.length_take]
          omega
        · rw [upd_ne (ne_of_none e nD)]
          exact s1 _ _ e
        · rw [upd_same, List.take_add_one, hc, List.map_append, List.map_append]
          rfl
      · obtain ⟨s1, eD⟩ := e2
        rw [List.take_length] at eD
        refine ⟨D, _, rfl, SqL.of eD, _, rfl, ?_⟩
        have ea : ((z.cps.toList.map fun c => decide (c ∈ [100, 117, 119])).all id) = okS z := by
          rw [List.all_map]
          rfl
        rw [ea]
        cases ho : okS z with
        | true => exact iteF (q ho _ s1)
        | false => exact iteT (e ho _ s1)
    · refine ⟨x, rfl, x, _, t, _, false, rfl, .ty _, ty, k, false, rfl, ?_⟩
      exact iteT (iteT (e no _ (Same.refl _)))
def costB : V → Bool
  | .int n => decide (1 ≤ n) && decide (n ≤ 50)
  | _ => false
def sp_cost_good : Sp := fun vs H Q _ => ∃ n : Int, vs = [.int n] ∧ 1 ≤ n ∧ n ≤ 50 ∧ Q .non H
theorem ok_cost_good (T : Txt K mg) : FnOk P w K mg base CX0 2 T.a_refuse_no_cost T.d_refuse_no_cost p_refuse_no_cost sp_cost_good := by
  obtain ⟨tm, gm⟩ := T.gl_MOST_COST
  refine T.F_refuse_no_cost.ok sc_refuse_no_cost (fun vs H Q E h => ?_) (fun cdv A outer s H vs Q E hr h => ?_)
  · obtain ⟨_, rfl, _⟩ := h
    rfl
  · obtain ⟨n, rfl, h1, h2, q⟩ := h
    refine ⟨_, pss_one (ps_if (PW.pt (pw_or (pt_not (pt_val (pe_call (ok_is_whole T) hr (by rfl) T.g_is_whole T.F_is_whole.kp T.b_is_whole .nil pass0 (pa_cons (pv 0) pa_nil))))
      (pw_or1 (pt_not (pt_chain op_le op_le pe_int (pv 0) (pe_glob (v := .int 50) (by rfl) gm ⟨_, rfl⟩)))))) (pss_one ps_never) pss_nil), ?_⟩
    refine ⟨.int n, rfl, .int n, rfl, plain_int n, _, rfl, ?_⟩
    refine iteF ⟨_, rfl, _, _, rfl, rfl, _, rfl, ?_⟩
    rw [decide_eq_true h1]
    refine iteT ⟨_, _, rfl, rfl, _, rfl, ?_⟩
    rw [decide_eq_true h2]
    exact iteF q
def sp_cost_any (K : PySem.W.Frag) (C : Addr) : Sp := fun vs H Q E => ∃ x, vs = [x] ∧ Plain K H x ∧ (costB x = true → Q .non H) ∧ (costB x = false → E (.ref C) none H)
theorem ok_cost_any (T : Txt K mg) : FnOk P w K mg base (L2.CX P w) 2 T.a_refuse_no_cost T.d_refuse_no_cost p_refuse_no_cost (sp_cost_any K T.c_NoCost) := by
  obtain ⟨tm, gm⟩ := T.gl_MOST_COST
  refine T.F_refuse_no_cost.okX sc_refuse_no_cost (fun vs H Q E h => ?_) (fun cdv A outer s H vs Q E hr h => ?_)
  · obtain ⟨x, rfl, _⟩ := h
    rfl
  · obtain ⟨x, rfl, k, q, e⟩ := h
    refine ⟨_, pss_one (ps_if (PW.pt (pw_or (pt_not (pt_val (pe_call (ok_is_whole T) hr (by rfl) T.g_is_whole T.F_is_whole.kp T.b_is_whole .nil pass0 (pa_cons (pv 0) pa_nil))))
      (pw_or1 (pt_not (pt_chain op_le op_le pe_int (pv 0) (pe_glob (v := .int 50) (by rfl) gm ⟨_, rfl⟩))))))
      (pss_one (ps_raise rfl (takes_of rfl rfl rfl rfl) (pmk_own PySem.F.excBase_ValueError T.x_NoCost T.gc_NoCost T.kp_NoCost (raises_own T.bs_NoCost T.ty_NoCost) (by rfl)))) pss_nil), ?_⟩
    refine ⟨x, rfl, x, rfl, k, _, rfl, ?_⟩
    cases x with
    | int n =>
      refine iteF ⟨_, rfl, _, _, rfl, rfl, _, rfl, ?_⟩
      by_cases h1 : 1 ≤ n
      · rw [decide_eq_true h1]
        refine iteT ⟨_, _, rfl, rfl, _, rfl, ?_⟩
        by_cases h2 : n ≤ 50
        · rw [decide_eq_true h2]
          exact iteF (q (by simp [costB, h1, h2]))
        · rw [decide_eq_false h2]
          exact iteT (e (by simp [costB, h2]))
      · rw [decide_eq_false h1]
        exact iteF ⟨_, rfl, iteT (e (by simp [costB, h1]))⟩
    | _ => exact iteT (iteT (e rfl))
/-! ### doubled_between -/
def sp_doubled (K : PySem.W.Frag) : Sp := fun vs H Q _ => ∃ a cs E0, vs = [.ref a] ∧ SqL K H a (cs.map V.int) ∧ cs ≠ [] ∧ cs.length ≤ 1000000 ∧ (∀ c ∈ cs, c.natAbs < 2 ^ E0) ∧ E0 ≤ 1000000 ∧ ∀ H', Same H H' → Q (.int (hf 1 0 cs)) H'
theorem ok_doubled (T : Txt K mg) : FnOk P w K mg base CX0 1 T.a_doubled_between T.d_doubled_between p_doubled_between (sp_doubled K) := by
  refine T.F_doubled_between.ok sc_doubled_between (fun vs H Q E h => ?_) (fun cdv A outer s H vs Q E hr h => ?_)
  · obtain ⟨_, _, _, rfl, _⟩ := h
    rfl
  · obtain ⟨a, cs, E0, rfl, hA, hne, hlen, hE, hE0, q⟩ := h
    refine ⟨_, pss_cons (ps_set (i := 1) sc_doubled_between.nd rfl (.inr rfl) pe_int)
      (pss_cons (ps_while PassesOwn.never (pt_cmpR op_gt (pe_callB call_len_seq (by rfl) T.z_len PySem.boot_len (pa_cons (pv 0) pa_nil)) pe_int (nomark _))
        (pss_cons (ps_if (pt_cmpR op_eq (pe_op op_mod (pe_callB call_len_seq (by rfl) T.z_len PySem.boot_len (pa_cons (pv 0) pa_nil)) pe_int) pe_int (nomark _)) (pss_one (ps_set (i := 0) sc_doubled_between.nd rfl (.inl rfl) (pe_op op_catS (pe_lst (pa_cons pe_int pa_nil)) (pv 0)))) pss_nil)
        (pss_cons (ps_setLc (i := 0) (own := [("one", 2), ("other", 3)]) (g := gTup K 2 (gCons (gName 2) (gCons (gName 3) gNil))) (tt := tYes) (by rfl) sc_doubled_between.nd rfl rfl (sw_true rfl rfl rfl (by decide +kernel)) (pi_zip (by rfl) T.z_zip (pa_cons (pe_ev (pv 0)) (pa_cons (pe_od (pv 0)) pa_nil)))
            (blkOk_by (N := ["balances", "doublings", "one", "other"]) (own := [("one", 2), ("other", 3)]) (sc := defScope t_doubled_between) (by decide +kernel))
            (fun _ _ _ _ _ => by exact pg_tup rfl (pgs_cons (pg_name (i := 2) sc_doubled_between.nd rfl (Or.inl rfl)) (pgs_cons (pg_name (i := 3) sc_doubled_between.nd rfl (Or.inl rfl)) pgs_nil)))
            (fun _ _ _ _ _ => pts_nil) (fun _ _ _ _ _ => pe_op op_add (pe_op op_shlW (pv 2) (pv 1)) (pv 3)))
        (pss_one (ps_set (i := 1) sc_doubled_between.nd rfl (.inr rfl) (pe_op op_mul (pv 1) pe_int))))))
      (pss_one (ps_ret (pe_ix ix_list (pv 0) pe_int (fun _ _ => rfl))))), ?_⟩
    have lim : (2000000 : Nat) ≤ sizeLine := by decide
    refine ⟨fun m σ H1 => ∃ (cs1 : List Int) (D E : Nat) (p : Addr), cs1.length = m ∧ cs1 ≠ [] ∧ hf D 0 cs1 = hf 1 0 cs ∧ 1 ≤ D ∧ D * (m - 1) ≤ cs.length ∧ m ≤ cs.length ∧ (∀ c ∈ cs1, c.natAbs < 2 ^ E) ∧ E ≤ E0 + 2 * (D - 1) ∧ SqL K H1 p (cs1.map V.int) ∧ Same H H1 ∧ σ = [some (.ref p), some (.int (D : Int)), none, none],
      ⟨cs.length, cs, 1, E0, a, rfl, hne, rfl, Nat.le_refl _, by omega, Nat.le_refl _, hE, by omega, hA, Same.refl _, rfl⟩, fun m σ H1 hW => ?_⟩
    obtain ⟨cs1, D, E, p, hm, hne1, hV, hD, hDm, hmL, hb, hEE, hS, sH, rfl⟩ := hW
    refine ⟨.ref p, rfl, p, cs1.map V.int, rfl, .inl hS, _, _, rfl, rfl, _, rfl, ?_⟩
    have lm : (cs1.map V.int).length = m := by rw [List.length_map, hm]
    by_cases h1 : ((cs1.map V.int).length : Int) > 1
    · rw [decide_eq_true h1]
      have m2 : 2 ≤ m := by omega
      have hDL : D ≤ cs.length := by
        have : D * 1 ≤ D * (m - 1) := Nat.mul_le_mul_left D (by omega)
        omega
      refine iteT ⟨fun σ' H' => ∃ (ds : List Int) (p' : Addr), ds.length % 2 = 0 ∧ (ds.length = m ∨ ds.length = m + 1) ∧ hf D 0 ds = hf 1 0 cs ∧ (∀ c ∈ ds, c.natAbs < 2 ^ E) ∧ SqL K H' p' ((joined D ds).map V.int) ∧ Same H H' ∧ σ' = [some (.ref p'), some (.int ((D * 2 : Nat) : Int)), none, none], fun σ' H' hN => ?_, ?_⟩
      · obtain ⟨ds, p', ev, hl, hV2, hb2, hS2, sH2, rfl⟩ := hN
        have jl := joined_len D ds ev
        refine ⟨(joined D ds).length, by omega, joined D ds, D * 2, E + D + 1, p', rfl, ?_, ?_, by omega, ?_, by omega, joined_lt ds ev hb2, by omega, hS2, sH2, rfl⟩
        · intro z
          rw [z] at jl
          simp at jl
          omega
        · rw [hf_joined D ds 0 ev]
          exact hV2
        · rw [jl, Nat.mul_assoc]
          refine Nat.le_trans (Nat.mul_le_mul_left D ?_) hDm
          omega
      · refine ⟨.ref p, rfl, p, cs1.map V.int, rfl, .inl hS, _, _, rfl, rfl, (by show (0 : Int) < 2; decide), rfl, _, rfl, ?_⟩
        show ite _ _ _
        have k0 : SqL K H1 p (cs1.map V.int) ∧ Same H H1 := ⟨hS, sH⟩
        clear hS sH
        revert k0
        revert H1
        revert p
        refine if_list (S := fun p' H' => ∃ ds : List Int, ds.length % 2 = 0 ∧ (ds.length = m ∨ ds.length = m + 1) ∧ hf D 0 ds = hf 1 0 cs ∧ (∀ c ∈ ds, c.natAbs < 2 ^ E) ∧ SqL K H' p' (ds.map V.int) ∧ Same H H') (fun p H1 k0 c1 => ?_) (fun p H1 k1 => ?_) (fun p H1 k0 c1 go => ?_)
        · have c2 : ¬ (V.int (((cs1.map V.int).length : Int) % 2) = V.int 1) := of_decide_eq_false c1
          have c3 : ¬ (((cs1.map V.int).length : Int) % 2 = 1) := fun z => c2 (by rw [z])
          exact ⟨cs1, by omega, .inl hm, hV, hb, k0.1, k0.2⟩
        · obtain ⟨ds, ev, hl, hV2, hb2, hS, sH⟩ := k1
          have ev2 : (ds.map V.int).length % 2 = 0 := by rw [List.length_map]; exact ev
          refine ⟨.ref p, rfl, p, ds.map V.int, rfl, hS, ev2, fun e1 n1 => ?_⟩
          have s1 : Same H1 (upd H1 e1 (.lst (strided 0 (ds.map V.int)))) := same_upd n1
          have k1 : SqL K (upd H1 e1 (.lst (strided 0 (ds.map V.int)))) e1 ((strided 0 ds).map V.int) := by
            rw [← strided_map]
            exact SqL.of upd_same
          generalize upd H1 e1 (.lst (strided 0 (ds.map V.int))) = H2 at s1 k1
          refine ⟨.ref p, rfl, p, ds.map V.int, rfl, s1.seq hS, ev2, fun e2 n2 => ?_⟩
          have s2 : Same H2 (upd H2 e2 (.lst (strided 1 (ds.map V.int)))) := same_upd n2
          have k2 : SqL K (upd H2 e2 (.lst (strided 1 (ds.map V.int)))) e2 ((strided 1 ds).map V.int) := by
            rw [← strided_map]
            exact SqL.of upd_same
          generalize upd H2 e2 (.lst (strided 1 (ds.map V.int))) = H3 at s2 k2
          have k1' := s2.seq k1
          have l0 := strided_len 0 ds (by decide) ev
          have l1 := strided_len 1 ds (by decide) ev
          refine ⟨e1, e2, _, _, rfl, k1', k2, fun L nL => ?_⟩
          refine lc_zip (K := K) (a := e1) (b := e2) (xs := (strided 0 ds).map V.int) (ys := (strided 1 ds).map V.int) (by rw [List.length_map, List.length_map, l0, l1]) (fun i Hx => Same H3 Hx ∧ Hx L = some (.lst (((joined D ds).take i).map V.int))) ⟨same_upd nL, upd_same⟩
            (fun i Hx e => ⟨e.1.seq k1', e.1.seq k2⟩) (fun i x y t Hx hx hy e nt => ?_) (fun Hx e => ?_)
          · obtain ⟨sx, eL⟩ := e
            rw [List.getElem?_map] at hx hy
            cases gx : (strided 0 ds)[i]? with
            | none => rw [gx] at hx; cases hx
            | some u =>
              cases gy : (strided 1 ds)[i]? with
              | none => rw [gy] at hy; cases hy
              | some v =>
                rw [gx] at hx
                rw [gy] at hy
                cases hx
                cases hy
                have gj : (joined D ds)[i]? = some (u * 2 ^ D + v) := by
                  unfold joined
                  rw [List.getElem?_zipWith, gx, gy]
                have hi := (List.getElem?_eq_some_iff.mp gx).1
                have hu : u.natAbs < 2 ^ E := by
                  have hm := List.mem_of_getElem? gx
                  unfold strided at hm
                  obtain ⟨j, _, hj⟩ := List.mem_filterMap.mp hm
                  exact hb2 u (List.mem_of_getElem? hj)
                have st : Same Hx (upd Hx t (.tup [.int u, .int v])) := same_upd nt
                have eT := st _ _ eL
                refine ⟨t, [.int u, .int v], rfl, SqT.of upd_same, rfl, _, _, rfl, _, _, rfl, rfl, rfl, ?_⟩
                refine ⟨.int u, rfl, .int (D : Int), rfl, _, _, rfl, rfl, shl_ok hu (by omega), .int v, rfl, _, _, rfl, rfl, _, eT, ?_, fun b o e => ?_, ?_⟩
                · rw [List.length_map, List.length_take]
                  omega
                · rw [upd_ne (ne_of_none e nL)]
                  exact st _ _ (sx _ _ e)
                · rw [upd_same, List.take_add_one, gj, List.map_append, Int.toNat_natCast]
                  rfl
          · obtain ⟨sx, eL⟩ := e
            have lj : (joined D ds).length ≤ ((strided 0 ds).map V.int).length := by
              rw [joined_len D ds ev, List.length_map, l0]
              exact Nat.le_refl _
            rw [List.take_of_length_le lj] at eL
            refine ⟨.int (D : Int), rfl, _, _, rfl, rfl, .inr (by show -(2 ^ 64 : Int) < 2 ∧ (2 : Int) < 2 ^ 64; decide), ?_⟩
            refine ⟨ds, L, ev, hl, hV2, hb2, SqL.of eL, sH.trans (s1.trans (s2.trans sx)), ?_⟩
            have eD : ((D * 2 : Nat) : Int) = (D : Int) * 2 := by omega
            rw [eD]
            rfl
        · obtain ⟨hS, sH⟩ := k0
          refine ⟨small_ok (by simp), fun l nl => ?_⟩
          have s1 : Same H1 (upd H1 l (.lst [.int 0])) := same_upd nl
          have k1 : SqL K (upd H1 l (.lst [.int 0])) l [.int 0] := SqL.of upd_same
          generalize upd H1 l (.lst [.int 0]) = H2 at s1 k1
          refine ⟨.ref p, rfl, l, p, _, _, rfl, rfl, k1, s1.seq hS, by rw [List.length_map]; show 1 + cs1.length ≤ sizeLine; omega, fun o no => ?_⟩
          have c2 : V.int (((cs1.map V.int).length : Int) % 2) = V.int 1 := of_decide_eq_true c1
          have c3 := V.int.inj c2
          refine go o _ ⟨0 :: cs1, by simp only [List.length_cons]; omega, .inr (by simp [hm]), ?_, fun c hc => ?_, SqL.of (by rw [upd_same]; rfl), sH.trans (s1.trans (same_upd no))⟩
          · rw [← hV]
            show hf D (0 * 2 ^ D + 0) cs1 = hf D 0 cs1
            rw [Int.zero_mul, Int.add_zero]
          · rcases List.mem_cons.mp hc with z | z
            · rw [z]
              exact Nat.pow_pos (by decide)
            · exact hb c z
    · rw [decide_eq_false h1]
      have hm1 : m = 1 := by
        have : m ≠ 0 := fun z => hne1 (List.length_eq_zero_iff.mp (by omega))
        omega
      match cs1, hm, hV, hS with
      | [c], _, hV, hS =>
        refine iteF ⟨.ref p, rfl, p, _, 0, .int c, rfl, rfl, hS, atI_nat (j := 0) rfl, ?_⟩
        have e : c = hf 1 0 cs := by
          rw [← hV]
          show c = 0 * 2 ^ D + c
          rw [Int.zero_mul, Int.zero_add]
        rw [e]
        exact q H1 sH
      | [], hm, _, _ => simp at hm; omega
      | _ :: _ :: _, hm, _, _ => simp at hm; omega
/-! ### led, of deeds -/
def sp_led (K : PySem.W.Frag) : Sp := fun vs H Q _ => ∃ z : Str, vs = [.str z] ∧ z.length ≤ 100000 ∧ okS z = true ∧ ∀ H', Same H H' → Q (.int (going z.cps.toList 0)) H'
theorem ok_led (T : Txt K mg) : FnOk P w K mg base CX0 2 T.a_led T.d_led p_led (sp_led K) := by
  refine T.F_led.ok sc_led (fun vs H Q E h => ?_) (fun cdv A outer s H vs Q E hr h => ?_)
  · obtain ⟨_, rfl, _⟩ := h
    rfl
  · obtain ⟨z, rfl, hl, ok, q⟩ := h
    refine ⟨_, pss_cons (ps_expr (pe_call (ok_deeds_good T) hr (by rfl) T.g_refuse_no_deeds T.F_refuse_no_deeds.kp T.b_refuse_no_deeds .nil pass0 (pa_cons (pv 0) pa_nil)))
      (pss_one (ps_ret (pe_call (ok_doubled T) hr (by rfl) T.g_doubled_between T.F_doubled_between.kp T.b_doubled_between .nil pass0 (pa_cons (pe_lc (own := [("part", 1)]) (g := gName 1) (tt := tYes) (by rfl) sc_led.nd (pi_list (pe_split (pv 0) pe_str)) (blkOk_by (N := ["deeds", "part"]) (own := [("part", 1)]) (sc := defScope t_led) (by decide +kernel))
          (fun _ _ _ _ _ => pg_name (i := 1) sc_led.nd rfl (Or.inl rfl)) (fun _ _ _ _ _ => pts_nil)
          (fun _ _ _ _ _ => pe_op op_sub (pe_m1 PySem.F.slot_str_count PySem.F.type_str_count mt_count (pv 1) pe_str) (pe_m1 PySem.F.slot_str_count PySem.F.type_str_count mt_count (pv 1) pe_str))) pa_nil)))), ?_⟩
    have lim : (200000 : Nat) ≤ sizeLine := by decide
    have ed : (Str.ofString "d") = ⟨#[100]⟩ := rfl
    have sz : z.cps.toList.length = z.length := Array.length_toList
    have parts := cut_text z 100 (by decide)
    refine ⟨.str z, rfl, z, rfl, hl, ok, fun H1 s1 => ?_⟩
    refine ⟨.str z, rfl, ⟨z, rfl⟩, z, _, rfl, rfl, rfl, by omega, fun p np => ?_⟩
    have s2 : Same H1 (upd H1 p (.lst ((Txt.split z ⟨#[100]⟩).map V.str))) := same_upd np
    have k2 : SqL K (upd H1 p (.lst ((Txt.split z ⟨#[100]⟩).map V.str))) p ((Txt.split z ⟨#[100]⟩).map V.str) := SqL.of upd_same
    show _
    refine ⟨p, rfl, ⟨_, k2⟩, fun D nD => ?_⟩
    have lp : (Txt.split z ⟨#[100]⟩).length ≤ z.length + 1 := by
      have h1 := congrArg List.length parts
      rw [List.length_map] at h1
      have h2 := cut_len 100 (TL.tl z) []
      rw [h1]
      show _ ≤ z.length + 1
      have h3 : (TL.tl z).length = z.length := sz
      omega
    refine lc_list (K := K) (a := p) (xs := (Txt.split z ⟨#[100]⟩).map V.str) (fun i Hx => Same (upd H1 p (.lst ((Txt.split z ⟨#[100]⟩).map V.str))) Hx ∧ Hx D = some (.lst ((((Txt.split z ⟨#[100]⟩).take i).map fun y => bal (TL.tl y)).map V.int))) ⟨same_upd nD, upd_same⟩
      (fun i Hx _ e => e.1.seq k2) (fun i y Hx hy e => ?_) (fun Hx e => ?_)
    · obtain ⟨sx, eD⟩ := e
      rw [List.getElem?_map] at hy
      cases gy : (Txt.split z ⟨#[100]⟩)[i]? with
      | none => rw [gy] at hy; cases hy
      | some y0 =>
        rw [gy] at hy
        cases hy
        refine ⟨rfl, .str y0, rfl, ⟨y0, rfl⟩, y0, _, rfl, rfl, .str y0, rfl, ⟨y0, rfl⟩, y0, _, rfl, rfl, _, _, rfl, rfl, _, eD, ?_, fun b o e => ?_, ?_⟩
        · rw [List.length_map, List.length_map, List.length_take]
          omega
        · rw [upd_ne (ne_of_none e nD)]
          exact sx _ _ e
        · have e1 : Txt.count y0 (Str.ofString "u") = ((y0.cps.toList.count 117 : Nat) : Int) := count_one y0 117
          have e2 : Txt.count y0 (Str.ofString "w") = ((y0.cps.toList.count 119 : Nat) : Int) := count_one y0 119
          rw [upd_same, List.take_add_one, gy, List.map_append, List.map_append]
          show some (HO.lst (_ ++ [V.int (Txt.count y0 (Str.ofString "u") - Txt.count y0 (Str.ofString "w"))])) = _
          rw [e1, e2]
          rfl
    · obtain ⟨sx, eD⟩ := e
      rw [List.length_map, List.take_length] at eD
      have ec : ((Txt.split z ⟨#[100]⟩).map fun y => bal (TL.tl y)) = (cutAt 100 [] (TL.tl z)).map bal := by
        rw [← parts, List.map_map]
        rfl
      rw [ec] at eD
      refine ⟨D, (cutAt 100 [] (TL.tl z)).map bal, 17, rfl, SqL.of eD, ?_, ?_, fun c hc => ?_, by decide, fun H' s' => ?_⟩
      · intro e
        exact cut_ne 100 (TL.tl z) [] (List.map_eq_nil_iff.mp e)
      · rw [List.length_map]
        have := cut_len 100 (TL.tl z) []
        have h3 : (TL.tl z).length = z.length := sz
        omega
      · obtain ⟨pt, hp, rfl⟩ := List.mem_map.mp hc
        have h1 := bal_lt pt
        have h2 := cut_part 100 (TL.tl z) [] pt hp
        have h3 : (TL.tl z).length = z.length := sz
        simp only [List.length_nil] at h2
        have e17 : (2 : Nat) ^ 17 = 131072 := by decide
        omega
      · rw [going_hf (TL.tl z) (okS_mem ok)]
        exact q H' (s1.trans (s2.trans (sx.trans s')))
/-! ### cost_of -/
theorem count_le_len (z : Str) (c : Nat) : z.cps.toList.count c ≤ z.length := by
  have := List.count_le_length (a := c) (l := z.cps.toList)
  rwa [Array.length_toList] at this
def sp_cost (K : PySem.W.Frag) : Sp := fun vs H Q _ => ∃ (z : Str) (d s : Int), vs = [.str z, .int d, .int s] ∧ z.length ≤ 100000 ∧ okS z = true ∧ 1 ≤ d ∧ d ≤ 50 ∧ 1 ≤ s ∧ s ≤ 50 ∧ ∀ H', Same H H' → Q (.int (costI z d s)) H'
theorem ok_cost (T : Txt K mg) : FnOk P w K mg base CX0 3 T.a_cost_of T.d_cost_of p_cost_of (sp_cost K) := by
  refine T.F_cost_of.ok sc_cost_of (fun vs H Q E h => ?_) (fun cdv A outer s H vs Q E hr h => ?_)
  · obtain ⟨_, _, _, rfl, _⟩ := h
    rfl
  · obtain ⟨z, d, s1, rfl, hl, ok, d1, d2, p1, p2, q⟩ := h
    refine ⟨_, pss_cons (ps_expr (pe_call (ok_deeds_good T) (hr.mono (by decide)) (by rfl) T.g_refuse_no_deeds T.F_refuse_no_deeds.kp T.b_refuse_no_deeds .nil pass0 (pa_cons (pv 0) pa_nil)))
      (pss_cons (ps_expr (pe_call (ok_cost_good T) hr (by rfl) T.g_refuse_no_cost T.F_refuse_no_cost.kp T.b_refuse_no_cost .nil pass0 (pa_cons (pv 1) pa_nil)))
      (pss_cons (ps_expr (pe_call (ok_cost_good T) hr (by rfl) T.g_refuse_no_cost T.F_refuse_no_cost.kp T.b_refuse_no_cost .nil pass0 (pa_cons (pv 2) pa_nil)))
      (pss_cons (ps_set (i := 3) sc_cost_of.nd rfl (.inl rfl) (pe_m1 PySem.F.slot_str_count PySem.F.type_str_count mt_count (pv 0) pe_str))
      (pss_one (ps_ret (pe_op op_add (pe_op op_mul (pv 3) (pv 1)) (pe_op op_mul (pe_op op_sub (pe_callB call_len_str (by rfl) T.z_len PySem.boot_len (pa_cons (pv 0) pa_nil)) (pv 3)) (pv 2)))))))), ?_⟩
    have lim : (200000 : Nat) ≤ sizeLine := by decide
    have e1 : Txt.count z (Str.ofString "d") = ((z.cps.toList.count 100 : Nat) : Int) := count_one z 100
    refine ⟨.str z, rfl, z, rfl, hl, ok, fun H1 h1 => ?_⟩
    refine ⟨.int d, rfl, d, rfl, d1, d2, ?_⟩
    refine ⟨.int s1, rfl, s1, rfl, p1, p2, ?_⟩
    refine ⟨.str z, rfl, ⟨z, rfl⟩, z, _, rfl, rfl, ?_⟩
    rw [e1]
    refine ⟨.int ((z.cps.toList.count 100 : Nat) : Int), rfl, .int d, rfl, _, _, rfl, rfl, .inr (by show -(2 ^ 64 : Int) < d ∧ d < 2 ^ 64; omega), .str z, rfl, z, rfl, by omega, .int ((z.cps.toList.count 100 : Nat) : Int), rfl, _, _, rfl, rfl, .int s1, rfl, _, _, rfl, rfl, .inr (by show -(2 ^ 64 : Int) < s1 ∧ s1 < 2 ^ 64; omega), _, _, rfl, rfl, ?_⟩
    exact q H1 h1
def sp_cost_x (K : PySem.W.Frag) (cD cC : Addr) : Sp := fun vs H Q E => ∃ x d s, vs = [x, d, s] ∧ Thing K H x ∧ Plain K H d ∧ Plain K H s ∧
  (okD x = false → ∀ H', Same H H' → E (.ref cD) none H') ∧ (okD x = true → (costB d && costB s) = false → ∀ H', Same H H' → E (.ref cC) none H') ∧
  (∀ z di si, x = .str z → okS z = true → d = .int di → s = .int si → (costB d && costB s) = true → ∀ H', Same H H' → Q (.int (costI z di si)) H')
theorem ok_cost_x (T : Txt K mg) : FnOk P w K mg base (L2.CX P w) 3 T.a_cost_of T.d_cost_of p_cost_of (sp_cost_x K T.c_NoDeeds T.c_NoCost) := by
  refine T.F_cost_of.okX sc_cost_of (fun vs H Q E h => ?_) (fun cdv A outer s H vs Q E hr h => ?_)
  · obtain ⟨_, _, _, rfl, _⟩ := h
    rfl
  · obtain ⟨x, d, s1, rfl, th, kd, ks, eD, eC, q⟩ := h
    refine ⟨_, pss_cons (ps_expr (pe_call (ok_deeds_any T) (hr.mono (by decide)) (by rfl) T.g_refuse_no_deeds T.F_refuse_no_deeds.kp T.b_refuse_no_deeds .nil (passes_call (takes_of rfl rfl rfl rfl) fun _ _ _ _ h => h) (pa_cons (pv 0) pa_nil)))
      (pss_cons (ps_expr (pe_call (ok_cost_any T) hr (by rfl) T.g_refuse_no_cost T.F_refuse_no_cost.kp T.b_refuse_no_cost .nil (passes_call (takes_of rfl rfl rfl rfl) fun _ _ _ _ h => h) (pa_cons (pv 1) pa_nil)))
      (pss_cons (ps_expr (pe_call (ok_cost_any T) hr (by rfl) T.g_refuse_no_cost T.F_refuse_no_cost.kp T.b_refuse_no_cost .nil (passes_call (takes_of rfl rfl rfl rfl) fun _ _ _ _ h => h) (pa_cons (pv 2) pa_nil)))
      (pss_cons (ps_set (i := 3) sc_cost_of.nd rfl (.inl rfl) (pe_m1 PySem.F.slot_str_count PySem.F.type_str_count mt_count (pv 0) pe_str))
      (pss_one (ps_ret (pe_op op_add (pe_op op_mul (pv 3) (pv 1)) (pe_op op_mul (pe_op op_sub (pe_callB call_len_str (by rfl) T.z_len PySem.boot_len (pa_cons (pv 0) pa_nil)) (pv 3)) (pv 2)))))))), ?_⟩
    refine ⟨x, rfl, x, rfl, th, fun ok H1 h1 => ?_, fun no H1 h1 => eD no H1 h1⟩
    refine ⟨d, rfl, d, rfl, kd.mono h1, fun bd => ?_, fun bd => eC ok (by rw [bd]; rfl) H1 h1⟩
    refine ⟨s1, rfl, s1, rfl, ks.mono h1, fun bs => ?_, fun bs => eC ok (by rw [bs]; simp) H1 h1⟩
    have lim : (200000 : Nat) ≤ sizeLine := by decide
    rcases th with ⟨z, rfl, hl⟩ | ⟨no, _⟩
    · cases d with
      | int di =>
        cases s1 with
        | int si =>
          have e1 : Txt.count z (Str.ofString "d") = ((z.cps.toList.count 100 : Nat) : Int) := count_one z 100
          have b1 : 1 ≤ di ∧ di ≤ 50 := by simpa [costB] using bd
          have b2 : 1 ≤ si ∧ si ≤ 50 := by simpa [costB] using bs
          refine ⟨.str z, rfl, ⟨z, rfl⟩, z, _, rfl, rfl, ?_⟩
          rw [e1]
          refine ⟨.int ((z.cps.toList.count 100 : Nat) : Int), rfl, .int di, rfl, _, _, rfl, rfl, .inr (by show -(2 ^ 64 : Int) < di ∧ di < 2 ^ 64; omega), .str z, rfl, z, rfl, by omega, .int ((z.cps.toList.count 100 : Nat) : Int), rfl, _, _, rfl, rfl, .int si, rfl, _, _, rfl, rfl, .inr (by show -(2 ^ 64 : Int) < si ∧ si < 2 ^ 64; omega), _, _, rfl, rfl, ?_⟩
          exact q z di si rfl ok rfl rfl (by rw [bd, bs]; rfl) H1 h1
        | _ => cases bs
      | _ => cases bd
    · rw [no] at ok
      cases ok
/-! ### led, where it refuses -/
def sp_led_no (K : PySem.W.Frag) (cD : Addr) : Sp := fun vs H _ E => ∃ x, vs = [x] ∧ Thing K H x ∧ okD x = false ∧ ∀ H', Same H H' → E (.ref cD) none H'
theorem ok_led_no (T : Txt K mg) : FnOk P w K mg base (L2.CX P w) 2 T.a_led T.d_led p_led (sp_led_no K T.c_NoDeeds) := by
  refine T.F_led.okX sc_led (fun vs H Q E h => ?_) (fun cdv A outer s H vs Q E hr h => ?_)
  · obtain ⟨_, rfl, _⟩ := h
    rfl
  · obtain ⟨x, rfl, th, no, e⟩ := h
    refine ⟨_, pss_cons (ps_expr (pe_call (ok_deeds_any T) hr (by rfl) T.g_refuse_no_deeds T.F_refuse_no_deeds.kp T.b_refuse_no_deeds .nil (passes_call (takes_of rfl rfl rfl rfl) fun _ _ _ _ h => h) (pa_cons (pv 0) pa_nil)))
      (pss_one ps_never), ?_⟩
    exact ⟨x, rfl, x, rfl, th, fun (ok : okD x = true) => absurd (no.symm.trans ok) (by simp), fun _ H1 h1 => e H1 h1⟩
/-! ### digits_of -/
theorem bitsN (n : Nat) : n < 2 ^ Builtin.Int.intBits (n : Int) ∧ (Builtin.Int.intBits (n : Int) = 0 ∨ 2 ^ (Builtin.Int.intBits (n : Int) - 1) ≤ n) := by
  unfold Builtin.Int.intBits
  by_cases h : n = 0
  · subst h
    simp
  · have e : ¬ ((n : Int) == 0) = true := by simpa using h
    first
      | rw [if_neg (by omega)]
      | rw [if_neg e]
    rw [Int.natAbs_natCast]
    have a := Nat.lt_log2_self (n := n)
    have b := Nat.log2_self_le h
    exact ⟨a, .inr (by rw [Nat.add_sub_cancel]; exact b)⟩
theorem bits_le {n k : Nat} (h : n < 2 ^ k) : Builtin.Int.intBits (n : Int) ≤ k := by
  obtain ⟨_, e | e⟩ := bitsN n
  · omega
  · by_cases c : Builtin.Int.intBits (n : Int) ≤ k
    · exact c
    · have : 2 ^ k ≤ 2 ^ (Builtin.Int.intBits (n : Int) - 1) := Nat.pow_le_pow_right (by omega) (by omega)
      omega
def sp_digits : Sp := fun vs H Q _ => ∃ (n m N : Nat), vs = [.int (n : Int), .int (m : Int)] ∧ n < 2 ^ N ∧ N ≤ 1000000 ∧ 1 ≤ m ∧ m ≤ 1000000 ∧
  ∀ H' (z : Str) (r : List Int), Same H H' → Row r → gaps r = true → val r = (n : Int) → r.length ≤ N + 1 → z.cps.toList = ((r ++ List.replicate (m - r.length) 0).map ch).reverse → Q (.str z) H'
theorem ok_digits (T : Txt K mg) : FnOk P w K mg base CX0 2 T.a_digits_of T.d_digits_of p_digits_of sp_digits := by
  refine T.F_digits_of.ok sc_digits_of (fun vs H Q E h => ?_) (fun cdv A outer s H vs Q E hr h => ?_)
  · obtain ⟨_, _, _, rfl, _⟩ := h
    rfl
  · obtain ⟨n, m, N, rfl, hn, hN, hm, hm2, q⟩ := h
    refine ⟨_, pss_cons (ps_asg (pe_call (ok_lean_parts T) hr (by rfl) T.g_lean_parts T.F_lean_parts.kp T.b_lean_parts .nil pass0 (pa_cons (pv 0) pa_nil)) (pg_tup rfl (pgs_cons (pg_name (i := 2) sc_digits_of.nd rfl (.inl rfl)) (pgs_cons (pg_name (i := 3) sc_digits_of.nd rfl (.inl rfl)) pgs_nil))))
      (pss_cons (ps_set (i := 4) sc_digits_of.nd rfl (.inl rfl) (pe_callTy (call_int16 T.digits) (by rfl) T.z_int (by decide +kernel) (pa_cons (pe_joined1 (pe_fmtB (pv 2))) (pa_cons pe_int pa_nil))))
      (pss_cons (ps_set (i := 5) sc_digits_of.nd rfl (.inl rfl) (pe_callTy (call_int16 T.digits) (by rfl) T.z_int (by decide +kernel) (pa_cons (pe_joined1 (pe_fmtB (pv 3))) (pa_cons pe_int pa_nil))))
      (pss_one (ps_ret (pe_bm PySem.F.plainAttrs_str PySem.F.slot_str_zfill PySem.F.type_str_zfill mt_zfill (pe_joined1 (pe_fmtX (pe_op op_add (pv 4) (pe_op op_mulN pe_int (pv 5))))) (pa_cons (pv 1) pa_nil)))))), ?_⟩
    have ld : sizeLine = 16777216 := by decide
    have hn' : (n : Int).natAbs < 2 ^ N := by rw [Int.natAbs_natCast]; exact hn
    obtain ⟨u0, d0⟩ := ups_pos (n : Int)
    obtain ⟨x0, x1⟩ := lean_facts hn'
    have ub : upsOf (n : Int) ≤ _ := (and_bounds (x := (n : Int) + (n : Int) / 2) x0).2
    have db : downsOf (n : Int) ≤ _ := (and_bounds (x := (n : Int) / 2) x0).2
    obtain ⟨r, rr, rg, rv, rl, hl, et⟩ := XHexRow.row_text hn' m hm
    have c2 : ((2 ^ (N + 1) : Nat) : Int) = (2 : Int) ^ (N + 1) := Int.natCast_pow 2 (N + 1)
    have ea : upsOf (n : Int) = (((upsOf (n : Int)).toNat : Nat) : Int) := (Int.toNat_of_nonneg u0).symm
    have eb : downsOf (n : Int) = (((downsOf (n : Int)).toNat : Nat) : Int) := (Int.toNat_of_nonneg d0).symm
    have la : (upsOf (n : Int)).toNat < 2 ^ (N + 1) := by omega
    have lb : (downsOf (n : Int)).toNat < 2 ^ (N + 1) := by omega
    have hl2 : (XHexRow.hdigs (XHexRow.comb (upsOf (n : Int)).toNat (downsOf (n : Int)).toNat)).length ≤ N + 1 := hl
    have et2 : (Txt.zfill (XB.hexText ((XHexRow.comb (upsOf (n : Int)).toNat (downsOf (n : Int)).toNat : Nat) : Int)) (m : Int)).cps.toList = ((r ++ List.replicate (m - r.length) 0).map ch).reverse := et
    refine ⟨.int n, rfl, n, rfl, fun H0 p0 s0 np0 e0 => ?_⟩
    rw [ea, eb] at e0
    clear et hl ub db u0 d0 ea eb
    generalize (upsOf (n : Int)).toNat = a at *
    generalize (downsOf (n : Int)).toNat = b at *
    refine ⟨p0, _, rfl, SqT.of e0, rfl, _, _, rfl, _, _, rfl, rfl, ?_⟩
    have k1 := (digs_bits N a la).1
    have k2 := (digs_bits N b lb).1
    have t1 := binText_len a
    have t2 := binText_len b
    refine ⟨.int a, rfl, (a : Int), rfl, by omega, XB.binText (a : Int), rfl, (XHexRow.bin_hex a).1, (XHexRow.bin_hex a).2, ?_⟩
    rw [XHexRow.bin_read]
    refine ⟨.int b, rfl, (b : Int), rfl, by omega, XB.binText (b : Int), rfl, (XHexRow.bin_hex b).1, (XHexRow.bin_hex b).2, ?_⟩
    rw [XHexRow.bin_read]
    refine ⟨.int (XHexRow.spread a : Int), rfl, .int (XHexRow.spread b : Int), rfl, 2, XHexRow.spread b, rfl, rfl, by omega, _, _, rfl, rfl, ?_⟩
    have ec : (XHexRow.spread a : Int) + ((2 * XHexRow.spread b : Nat) : Int) = ((XHexRow.comb a b : Nat) : Int) := by
      unfold XHexRow.comb
      omega
    have hx := XHexRow.hexText_len (XHexRow.comb a b)
    refine ⟨(XHexRow.spread a : Int) + ((2 * XHexRow.spread b : Nat) : Int), rfl, ?_⟩
    rw [ec]
    refine ⟨by omega, rfl, .int (m : Int), rfl, XB.hexText ((XHexRow.comb a b : Nat) : Int), (m : Int), rfl, rfl, ?_, ?_⟩
    · unfold PadOk fitsSsize
      rw [Bool.and_eq_true]
      refine ⟨?_, ?_⟩
      · simp
        omega
      · have : Builtin.Str.tooLong m = false := by
          unfold Builtin.Str.tooLong
          simp
          omega
        rw [Int.toNat_natCast, this]
        rfl
    · exact q H0 _ r s0 rr rg rv rl et2
/-! ### begun -/
theorem if_one {b0 b A P : Int → Prop} {c : Bool} (h0 : ∀ z, b0 z → c = false → b z) (go : ∀ n, b n → P n) (hA : ∀ z, b0 z → c = true → (∀ n, b n → P n) → A z) : ∀ z, b0 z → if c = true then A z else P z := fun z hz => by
  cases h : c with
  | true =>
    rw [if_pos rfl]
    exact hA z hz h go
  | false =>
    rw [if_neg Bool.false_ne_true]
    exact go z (h0 z hz h)
theorem if_two {b0 b A P : Int → Str → Prop} {c : Int → Str → Bool} (h0 : ∀ f z, b0 f z → c f z = false → b f z) (go : ∀ f z, b f z → P f z) (hA : ∀ f z, b0 f z → c f z = true → (∀ f z, b f z → P f z) → A f z) :
    ∀ f z, b0 f z → if c f z = true then A f z else P f z := fun f z hz => by
  cases h : c f z with
  | true =>
    rw [if_pos rfl]
    exact hA f z hz h go
  | false =>
    rw [if_neg Bool.false_ne_true]
    exact go f z (h0 f z hz h)
theorem row_chars {r : List Int} {e : Nat} (h : r.length ≤ e) : r ++ List.replicate (e - r.length) 0 = rowOf r e := by
  unfold rowOf
  rw [List.take_of_length_le h]
theorem row_cut {r : List Int} {e : Nat} (h : r.length = e + 1) : (((r ++ List.replicate (e - r.length) 0).map ch).reverse).drop 1 = ((rowOf r e).map ch).reverse := by
  have z : e - r.length = 0 := by omega
  unfold rowOf
  rw [z, List.replicate_zero, List.append_nil, List.append_nil, List.drop_reverse, List.length_map, h, Nat.add_sub_cancel, List.map_take]
theorem cut_one {z : Str} (h : 1 ≤ z.length) : (cutS z (some 1) none).cps.toList = z.cps.toList.drop 1 := by
  have h2 : z.cps.toList.length = z.length := Array.length_toList
  show (((z.cps.toList.drop (HT.sIx z.length 0 (some 1))).take (HT.sIx z.length z.length none - HT.sIx z.length 0 (some 1))).toArray).toList = _
  have e1 : HT.sIx z.length 0 (some 1) = 1 := by
    unfold HT.sIx
    simp
    omega
  have e2 : HT.sIx z.length z.length none = z.length := by
    unfold HT.sIx
    simp
  rw [e1, e2, List.take_of_length_le (by rw [List.length_drop]; omega)]
/-- the first steps and the row told, with the doublings that are picked -/
def Begun (h n : Nat) (f : Int) (z : Str) : Prop := ∃ (d : Nat) (r : List Int), Pick h n d ∧ Row r ∧ gaps r = true ∧ val r = ((n % 2 ^ d : Nat) : Int) ∧ r.length ≤ d + 1 ∧ f = ((firstOf n r d : Nat) : Int) ∧ z.cps.toList = ((rowOf r d).map ch).reverse
def sp_begun : Sp := fun vs H Q _ => ∃ (n h B : Nat), vs = [.int (n : Int), .int (h : Int)] ∧ h ≤ 100 ∧ n < 2 ^ B ∧ B ≤ 40000 ∧
  ∀ H' p f (z : Str), Same H H' → H p = none → H' p = some (.tup [.int f, .str z]) → Begun h n f z → Q (.ref p) H'
theorem ok_begun (T : Txt K mg) : FnOk P w K mg base CX0 3 T.a_begun T.d_begun p_begun sp_begun := by
  refine T.F_begun.ok sc_begun (fun vs H Q E h => ?_) (fun cdv A outer s H vs Q E hr h => ?_)
  · obtain ⟨_, _, _, rfl, _⟩ := h
    rfl
  · obtain ⟨n, h, B, rfl, hh, hn, hB, q⟩ := h
    refine ⟨_, pss_cons (ps_set (i := 2) sc_begun.nd rfl (.inl rfl) (pe_op op_addN (pe_op op_mulN pe_int (pv 1)) pe_int))
      (pss_cons (ps_if (pt_cmpR op_le (pv 0) (pv 2) (nomark _)) (pss_one (ps_ret (pe_tup (pa_cons (pv 0) (pa_cons pe_str pa_nil))))) pss_nil)
      (pss_cons (ps_set (i := 3) sc_begun.nd rfl (.inl rfl) (pe_op op_subN (pe_bits (pv 0)) (pe_bits (pv 2))))
      (pss_cons (ps_if (pt_cmpR op_gt (pe_op op_shrN (pv 0) (pv 3)) (pv 2) (nomark _)) (pss_one (ps_set (i := 3) sc_begun.nd rfl (.inl rfl) (pe_op op_add (pv 3) pe_int))) pss_nil)
      (pss_cons (ps_set (i := 4) sc_begun.nd rfl (.inl rfl) (pe_op op_shrN (pv 0) (pv 3)))
      (pss_cons (ps_set (i := 5) sc_begun.nd rfl (.inl rfl) (pe_call (ok_digits T) hr (by rfl) T.g_digits_of T.F_digits_of.kp T.b_digits_of .nil pass0 (pa_cons (pe_op op_subN (pv 0) (pe_op op_shlN (pv 4) (pv 3))) (pa_cons (pv 3) pa_nil))))
      (pss_cons (ps_if (pt_cmpR op_gt (pe_callB call_len_str (by rfl) T.z_len PySem.boot_len (pa_cons (pv 5) pa_nil)) (pv 3) (nomark _)) (pss_one (ps_par (i := 4) (j := 5) rfl sc_begun.nd rfl rfl (by decide) rfl rfl (pa_cons (pe_op op_add (pv 4) pe_int) (pa_cons (pe_slice sl_str (pv 5) (po_some pe_int) po_none) pa_nil)) rfl)) pss_nil)
      (pss_cons (ps_if (pt_cmpR op_gt (pv 4) (pv 2) (nomark _)) (pss_one (ps_par (i := 4) (j := 5) rfl sc_begun.nd rfl rfl (by decide) rfl rfl (pa_cons (pe_op op_add (pv 1) pe_int) (pa_cons (pe_op op_add_str pe_str (pv 5)) pa_nil)) rfl)) pss_nil)
      (pss_one (ps_ret (pe_tup (pa_cons (pv 4) (pa_cons (pv 5) pa_nil)))))))))))), ?_⟩
    have ld : sizeLine = 16777216 := by decide
    have e27 : (2 : Int) ^ 27 = 134217728 := by decide
    have eM : 2 * (h : Int) + 1 = ((2 * h + 1 : Nat) : Int) := by omega
    refine ⟨.int h, rfl, 2, h, rfl, rfl, by omega, 2 * h, 1, rfl, rfl, ?_⟩
    refine ⟨.int n, rfl, .int ((2 * h + 1 : Nat) : Int), rfl, _, _, rfl, rfl, _, rfl, ?_⟩
    by_cases hs : n ≤ 2 * h + 1
    · rw [decide_eq_true (show (n : Int) ≤ ((2 * h + 1 : Nat) : Int) by omega)]
      refine iteT ⟨.int n, rfl, (by show 2 ≤ sizeLine; omega), fun p np => ?_⟩
      refine q _ p n "" (same_upd np) np upd_same ⟨0, [], ⟨0, by rw [Nat.pow_zero, Nat.div_one]; exact hs, .inl rfl, .inl ⟨rfl, fun z => ?_⟩⟩, ⟨(fun _ hm => nomatch hm), fun z => nomatch z⟩, rfl, ?_, Nat.zero_le _, ?_, rfl⟩
      · obtain ⟨_, r, rr, rg, rv, hl⟩ := z
        rw [Nat.pow_zero, Nat.mod_one] at rv
        cases r with
        | nil => cases hl
        | cons a t => exact val_ne (a :: t) rr.1 rr.2 (by simp) rv
      · rw [Nat.pow_zero, Nat.mod_one]
        rfl
      · show (n : Int) = ((n / 2 ^ 0 : Nat) : Int)
        rw [Nat.pow_zero, Nat.div_one]
    · rw [decide_eq_false (show ¬ (n : Int) ≤ ((2 * h + 1 : Nat) : Int) by omega)]
      refine iteF ?_
      obtain ⟨b1, b2⟩ := bitsN n
      obtain ⟨c1, c2⟩ := bitsN (2 * h + 1)
      have bL := bits_le hn
      generalize hL : Builtin.Int.intBits (n : Int) = L at b1 b2 bL
      generalize hb : Builtin.Int.intBits ((2 * h + 1 : Nat) : Int) = b at c1 c2
      have b2' : 2 ^ (L - 1) ≤ n := by
        rcases b2 with z | z
        · rw [z] at b1
          have : (2 : Nat) ^ 0 = 1 := rfl
          omega
        · exact z
      have c2' : 2 ^ (b - 1) ≤ 2 * h + 1 := by
        rcases c2 with z | z
        · rw [z] at c1
          have : (2 : Nat) ^ 0 = 1 := rfl
          omega
        · exact z
      obtain ⟨bl, p1, p2⟩ := pick_from_bits (by omega) b1 b2' c1 c2'
      refine ⟨.int n, rfl, (n : Int), rfl, .int ((2 * h + 1 : Nat) : Int), rfl, ((2 * h + 1 : Nat) : Int), rfl, L, b, by rw [hL], by rw [hb], bl, ?_⟩
      refine ⟨.int n, rfl, .int ((L - b : Nat) : Int), rfl, (n : Int), L - b, rfl, rfl, .int ((2 * h + 1 : Nat) : Int), rfl, _, _, rfl, rfl, _, rfl, ?_⟩
      have en : ∀ e : Nat, (n : Int) / 2 ^ e = ((n / 2 ^ e : Nat) : Int) := fun e => by
        rw [Int.natCast_ediv, Int.natCast_pow]
        rfl
      rw [en]
      generalize ez : ((L - b : Nat) : Int) = z
      revert ez
      revert z
      show ∀ z : Int, _ → ite _ _ _
      refine if_one (b := fun z => ∃ e : Nat, z = (e : Int) ∧ 1 ≤ e ∧ e ≤ 40001 ∧ n / 2 ^ e ≤ 2 * h + 1 ∧ (e = 0 ∨ 2 * h + 1 < n / 2 ^ (e - 1))) (fun z ez hc => ?_) (fun z ez => ?_) (fun z ez hc go => ?_)
      · have le := of_decide_eq_false hc
        have le2 : n / 2 ^ (L - b) ≤ 2 * h + 1 := by omega
        exact ⟨L - b, ez.symm, (p1 le2).2, by omega, le2, (p1 le2).1⟩
      · obtain ⟨e, rfl, e1, e2, e3, e4⟩ := ez
        refine ⟨.int n, rfl, .int e, rfl, (n : Int), e, rfl, rfl, ?_⟩
        rw [en]
        have hm : n % 2 ^ e < 2 ^ e := Nat.mod_lt _ (Nat.two_pow_pos e)
        have dm := Nat.div_add_mod n (2 ^ e)
        have le : n / 2 ^ e * 2 ^ e ≤ n := Nat.div_mul_le_self n (2 ^ e)
        have eR : n - n / 2 ^ e * 2 ^ e = n % 2 ^ e := by
          rw [Nat.mul_comm] at le ⊢
          omega
        refine ⟨.int n, rfl, .int ((n / 2 ^ e : Nat) : Int), rfl, .int e, rfl, _, e, rfl, rfl, ⟨Int.natCast_nonneg _, ?_⟩, n, n / 2 ^ e * 2 ^ e, rfl, ?_, le, ?_⟩
        · have := bits_le (n := n / 2 ^ e) (k := B) (Nat.lt_of_le_of_lt (Nat.div_le_self _ _) hn)
          generalize Builtin.Int.intBits ((n / 2 ^ e : Nat) : Int) = y at this
          omega
        · rw [Int.natCast_mul, Int.natCast_pow]
          rfl
        rw [eR]
        refine ⟨.int e, rfl, n % 2 ^ e, e, e, rfl, hm, by omega, e1, by omega, fun H1 zr r s1 rr rg rv rl et => ?_⟩
        have lz : zr.length = r.length + (e - r.length) := by
          have := congrArg List.length et
          rw [Array.length_toList, List.length_reverse, List.length_map, List.length_append, List.length_replicate] at this
          exact this
        refine ⟨.str zr, rfl, zr, rfl, by omega, .int e, rfl, _, _, rfl, rfl, _, rfl, ?_⟩
        generalize ef : ((n / 2 ^ e : Nat) : Int) = f1
        have st : f1 = ((n / 2 ^ e : Nat) : Int) ∧ zr.cps.toList = ((r ++ List.replicate (e - r.length) 0).map ch).reverse ∧ zr.length = r.length + (e - r.length) := ⟨ef.symm, et, lz⟩
        clear et lz ef
        revert st
        revert zr
        revert f1
        show ∀ (f1 : Int) (zr : Str), _ → ite _ _ _
        refine if_two (b := fun f1 zr => f1 = ((firstOf n r e : Nat) : Int) ∧ zr.cps.toList = ((rowOf r e).map ch).reverse) (fun f1 zr st hc => ?_) (fun f1 zr st => ?_) (fun f1 zr st hc go => ?_)
        · obtain ⟨rfl, et, lz⟩ := st
          have le := of_decide_eq_false hc
          have le2 : r.length ≤ e := by omega
          refine ⟨?_, ?_⟩
          · rw [firstOf, if_neg (by omega)]
          · rw [et, row_chars le2]
        · obtain ⟨rfl, et⟩ := st
          refine ⟨.int ((firstOf n r e : Nat) : Int), rfl, .int ((2 * h + 1 : Nat) : Int), rfl, _, _, rfl, rfl, _, rfl, ?_⟩
          generalize ef : ((firstOf n r e : Nat) : Int) = f1
          have st : f1 = ((firstOf n r e : Nat) : Int) ∧ zr.cps.toList = ((rowOf r e).map ch).reverse := ⟨ef.symm, et⟩
          clear et ef
          revert st
          revert zr
          revert f1
          show ∀ (f1 : Int) (zr : Str), _ → ite _ _ _
          refine if_two (b := fun f1 zr => Begun h n f1 zr) (fun f1 zr st hc => ?_) (fun f1 zr st => ?_) (fun f1 zr st hc go => ?_)
          · obtain ⟨rfl, et⟩ := st
            have le := of_decide_eq_false hc
            refine ⟨e, r, ⟨e, e3, e4, .inl ⟨rfl, fun z => ?_⟩⟩, rr, rg, rv, rl, rfl, et⟩
            obtain ⟨zq, r', rr', rg', rv', hl'⟩ := z
            have er := lean_only r r' rr rr' rg rg' (by rw [rv, rv'])
            subst er
            rw [firstOf, if_pos hl'] at le
            omega
          · refine ⟨.int f1, rfl, .str zr, rfl, (by show 2 ≤ sizeLine; omega), fun p np => ?_⟩
            exact q _ p f1 zr (s1.trans (same_upd np)) (XParts.none_back s1 np) upd_same st
          · obtain ⟨rfl, et⟩ := st
            have gt := of_decide_eq_true hc
            have hl : e < r.length := by
              by_cases c : e < r.length
              · exact c
              · rw [firstOf, if_neg c] at gt
                omega
            rw [firstOf, if_pos hl] at gt
            have hq : n / 2 ^ e = 2 * h + 1 := by omega
            obtain ⟨t, t1, t2, t3, t4, t5, t6⟩ := plan_more rr rg rv hl hq
            have lz : zr.length = e := by
              have := congrArg List.length et
              rw [Array.length_toList, List.length_reverse, List.length_map, rowOf_len] at this
              exact this
            refine ⟨.int h, rfl, _, _, rfl, rfl, .str zr, rfl, _, _, rfl, rfl, ?_, _, _, rfl, ?_⟩
            · show 1 + zr.length ≤ sizeLine
              omega
            · refine go _ _ ⟨e + 1, t, ⟨e, e3, e4, .inr ⟨rfl, hq, r, rr, rg, rv, hl⟩⟩, t1, t2, t3, t4, ?_, ?_⟩
              · rw [t5]
                omega
              · rw [app_list, et, t6, List.map_append, List.reverse_append]
                rfl
        · obtain ⟨rfl, et, lz⟩ := st
          have gt := of_decide_eq_true hc
          have hl : e < r.length := by omega
          have hl2 : r.length = e + 1 := by omega
          refine ⟨.int ((n / 2 ^ e : Nat) : Int), rfl, _, _, rfl, rfl, .str zr, rfl, 1, rfl, zr, rfl, by omega, _, _, rfl, ?_⟩
          refine go _ _ ⟨?_, ?_⟩
          · rw [firstOf, if_pos hl]
            omega
          · rw [cut_one (by omega), et, row_cut hl2]
      · have gt := of_decide_eq_true hc
        have gt2 : 2 * h + 1 < n / 2 ^ (L - b) := by omega
        refine ⟨.int z, rfl, _, _, rfl, rfl, ?_⟩
        refine go _ ⟨L - b + 1, by omega, by omega, by omega, p2 gt2, .inr ?_⟩
        rw [Nat.add_sub_cancel]
        exact gt2
/-! ### least -/
theorem room1 {k : Nat} {A : Around} (r : Room k A) : A.units + 1 < cLine := by
  have := r.un
  omega
theorem sqT_same {K : PySem.W.Frag} {H H' : Hp} {t : Addr} {ys : List V} (h : SqT K H t ys) (s : Same H H') : SqT K H' t ys := by
  rcases h with (h | ⟨o, h⟩) | h
  · exact .inl (.inl (s _ _ h))
  · exact .inl (.inr ⟨o, s _ _ h⟩)
  · exact .inr h
theorem nz_le : ∀ l : List Int, nz l ≤ l.length
  | [] => Nat.le_refl _
  | x :: r => by
    have ih := nz_le r
    show (if x = 0 then 0 else 1) + nz r ≤ r.length + 1
    split <;> omega
theorem natAbs_if (N : Int) : (if N < 0 then -N else N) = ((N.natAbs : Nat) : Int) := by
  split <;> omega
theorem rep_flat (c : Nat) : ∀ k : Nat, (List.replicate k [c]).flatten = List.replicate k c
  | 0 => rfl
  | k + 1 => by
    rw [List.replicate_succ, List.flatten_cons, rep_flat c k]
    rfl
def wUp (up : Nat) : Str := ⟨#[up]⟩
theorem if_way {N : Int} {n : Nat} {σ : L2.St} {H : Hp} {Q0 : VK} (en : n = N.natAbs) (h : ∀ up down g p, Way up down g → g * (n : Int) = N → H p = none → Q0 (.ref p) (upd H p (.tup [.str (wUp up), .str (wUp down)]))) :
    if decide (N > 0) = true then tTup (tCons (tC (.str (Str.ofString "u"))) (tCons (tC (.str (Str.ofString "w"))) tNil)) σ H Q0 else tTup (tCons (tC (.str (Str.ofString "w"))) (tCons (tC (.str (Str.ofString "u"))) tNil)) σ H Q0 := by
  have z : 2 ≤ sizeLine := by decide
  by_cases hp : N > 0
  · rw [decide_eq_true hp]
    exact iteT ⟨z, fun p np => h 117 119 1 p (.inl ⟨rfl, rfl, rfl⟩) (by omega) np⟩
  · rw [decide_eq_false hp]
    exact iteF ⟨z, fun p np => h 119 117 (-1) p (.inr ⟨rfl, rfl, rfl⟩) (by omega) np⟩
/-- half of what steps alone lead to at the least cost -/
def halfOf (D S : Int) : Nat := ((D - 1) / S).toNat
theorem half_eq {D S : Int} (d1 : 1 ≤ D) (s1 : 1 ≤ S) : ((halfOf D S : Nat) : Int) = (D - 1) / S := Int.toNat_of_nonneg (Int.ediv_nonneg (by omega) (by omega))
theorem half_le {D S : Int} (d1 : 1 ≤ D) (d2 : D ≤ 50) (s1 : 1 ≤ S) : halfOf D S ≤ 49 := by
  have h := half_eq d1 s1
  have : (D - 1) / S ≤ D - 1 := Int.ediv_le_self _ (by omega)
  omega
/-- the deeds that are told of a number -/
def LeastTold (D S N : Int) (z : Str) : Prop := ∃ (d : Nat) (r : List Int) (up down : Nat) (g : Int), Pick (halfOf D S) N.natAbs d ∧ Way up down g ∧ Row r ∧ gaps r = true ∧ val r = ((N.natAbs % 2 ^ d : Nat) : Int) ∧ r.length ≤ d + 1 ∧ g * ((N.natAbs : Nat) : Int) = N ∧
  z.cps.toList = plan up down (firstOf N.natAbs r d) (rowOf r d)
theorem plan_zero (up down d : Nat) : plan up down (firstOf 0 [] d) (rowOf [] d) = List.replicate d 100 := by
  have e1 : firstOf 0 [] d = 0 := by
    unfold firstOf
    rw [if_neg (by simp)]
    exact Nat.zero_div _
  have e2 : rowOf [] d = List.replicate d 0 := by
    unfold rowOf
    simp
  rw [e1, e2, plan]
  show ((List.replicate d (0 : Int)).reverse.map (figD up down)).flatten = _
  rw [List.reverse_replicate, List.map_replicate]
  have : figD up down 0 = [100] := rfl
  rw [this]
  exact rep_flat 100 d
theorem told_unique {D S N : Int} {z z' : Str} (h : LeastTold D S N z) (h' : LeastTold D S N z') : z = z' := by
  obtain ⟨d, r, up, down, g, pk, way, rr, rg, rv, rl, gN, ez⟩ := h
  obtain ⟨d', r', up', down', g', pk', way', rr', rg', rv', rl', gN', ez'⟩ := h'
  have ed := pick_only pk pk'
  subst ed
  have er : r = r' := lean_only r r' rr rr' rg rg' (by rw [rv, rv'])
  subst er
  refine TL.ext_tl ?_
  show z.cps.toList = z'.cps.toList
  rw [ez, ez']
  by_cases h0 : N = 0
  · subst h0
    have v0 : val r = 0 := by
      rw [rv]
      show ((0 % 2 ^ d : Nat) : Int) = 0
      rw [Nat.zero_mod]
      rfl
    have e0 : r = [] := by
      cases r with
      | nil => rfl
      | cons x t => exact absurd v0 (val_ne (x :: t) rr.1 rr.2 (by simp))
    subst e0
    show plan up down (firstOf 0 [] d) (rowOf [] d) = plan up' down' (firstOf 0 [] d) (rowOf [] d)
    rw [plan_zero, plan_zero]
  · rcases way with ⟨rfl, rfl, rfl⟩ | ⟨rfl, rfl, rfl⟩ <;> rcases way' with ⟨rfl, rfl, rfl⟩ | ⟨rfl, rfl, rfl⟩
    · rfl
    · omega
    · omega
    · rfl
theorem told_facts {D S N : Int} {z : Str} {B : Nat} (d1 : 1 ≤ D) (d2 : D ≤ 50) (s1 : 1 ≤ S) (hn : N.natAbs < 2 ^ B) (hB : B ≤ 40000) (h : LeastTold D S N z) :
    okS z = true ∧ z.length ≤ 100000 ∧ going z.cps.toList 0 = N ∧ costI z D S = G D S N := by
  obtain ⟨d, r, up, down, gg, pk, way, rr, rg, rv, rl, gN, ez⟩ := h
  have hl := half_le d1 d2 s1
  have h3 := pick_least d1 s1 (half_eq d1 s1) pk
  have h1 := pick_small pk
  have h2 := pick_places pk hn
  generalize en : N.natAbs = n at *
  have eG : g D S n = G D S N := by rw [G, en]
  obtain ⟨c1, c2⟩ := plan_size way rr rg rv rl
  have nzr := nz_lean r rr rg
  rw [rv, Int.natAbs_natCast] at nzr
  have nzl := nz_le r
  have lz : z.length = d + (n / 2 ^ d + W (n % 2 ^ d)) := by
    have := congrArg List.length ez
    rw [Array.length_toList, c2] at this
    exact this
  have cz : z.cps.toList.count 100 = d := by rw [ez, c1]
  refine ⟨?_, by omega, ?_, ?_⟩
  · unfold okS
    rw [ez]
    exact plan_ok way _ _
  · rw [ez, plan_led way rr rv rl, gN]
  · unfold costI
    rw [cz, lz, ← eG, ← h3]
    unfold f
    congr 2
    omega
theorem told_zero {D S : Int} {z : Str} (h : LeastTold D S 0 z) : z = "" := by
  obtain ⟨d, r, up, down, g, pk, way, rr, rg, rv, rl, gN, ez⟩ := h
  have e0 : d = 0 := by
    obtain ⟨e, _, a2, a3⟩ := pk
    have z0 : ∀ k : Nat, (0 : Int).natAbs / 2 ^ k = 0 := fun k => Nat.zero_div _
    rw [z0] at a2
    rw [z0] at a3
    omega
  subst e0
  have v0 : val r = 0 := by
    rw [rv]
    show ((0 % 2 ^ 0 : Nat) : Int) = 0
    rfl
  have er : r = [] := by
    cases r with
    | nil => rfl
    | cons x t => exact absurd v0 (val_ne (x :: t) rr.1 rr.2 (by simp))
  subst er
  refine TL.ext_tl ?_
  have e2 : z.cps.toList = plan up down (firstOf 0 [] 0) (rowOf [] 0) := ez
  rw [plan_zero] at e2
  exact e2
def sp_least_good : Sp := fun vs H Q _ => ∃ (N D S : Int) (B : Nat), vs = [.int N, .int D, .int S] ∧ 1 ≤ D ∧ D ≤ 50 ∧ 1 ≤ S ∧ S ≤ 50 ∧ N.natAbs < 2 ^ B ∧ B ≤ 40000 ∧
  ∀ H' p (z : Str), Same H H' → H p = none → H' p = some (.tup [.int (G D S N), .str z]) → LeastTold D S N z → Q (.ref p) H'
theorem ok_least_good (T : Txt K mg) : FnOk P w K mg base CX0 6 T.a_least T.d_least p_least sp_least_good := by
  refine T.F_least.ok sc_least (fun vs H Q E h => ?_) (fun cdv A outer s H vs Q E hr h => ?_)
  · obtain ⟨_, _, _, _, rfl, _⟩ := h
    rfl
  · obtain ⟨N, D, S, B, rfl, d1, d2, p1, p2, hn, hB, q⟩ := h
    refine ⟨_, pss_cons (ps_expr (pe_call (ok_refuse_no_number T) (hr.mono (by decide)) (by rfl) T.g_refuse_no_number T.F_refuse_no_number.kp T.b_refuse_no_number .nil pass0 (pa_cons (pv 0) pa_nil)))
      (pss_cons (ps_expr (pe_call (ok_cost_good T) (hr.mono (by decide)) (by rfl) T.g_refuse_no_cost T.F_refuse_no_cost.kp T.b_refuse_no_cost .nil pass0 (pa_cons (pv 1) pa_nil)))
      (pss_cons (ps_expr (pe_call (ok_cost_good T) (hr.mono (by decide)) (by rfl) T.g_refuse_no_cost T.F_refuse_no_cost.kp T.b_refuse_no_cost .nil pass0 (pa_cons (pv 2) pa_nil)))
      (pss_asgK (pek_ifExp (pt_cmpR op_gt (pv 0) pe_int (nomark _)) pek_tup2 pek_tup2) (pg_tup rfl (pgs_cons (pg_name (i := 3) sc_least.nd rfl (.inl rfl)) (pgs_cons (pg_name (i := 4) sc_least.nd rfl (.inl rfl)) pgs_nil)))
      (psst_cons (PST.of (ps_asg (pe_call (ok_begun T) (hr.mono (by decide)) (by rfl) T.g_begun T.F_begun.kp T.b_begun .nil pass0 (pa_cons (pe_callB call_abs (by rfl) T.z_abs (by decide +kernel) (pa_cons (pv 0) pa_nil)) (pa_cons (pe_op op_fdiv (pe_op op_sub (pv 1) pe_int) (pv 2)) pa_nil))) (pg_tup rfl (pgs_cons (pg_name (i := 5) sc_least.nd rfl (.inl rfl)) (pgs_cons (pg_name (i := 6) sc_least.nd rfl (.inl rfl)) pgs_nil)))))
      (psst_cons (pst_set (i := 7) sc_least.nd rfl (.inl rfl) (CwR.pet_op op_add_str (CwR.PET.of (pe_op op_repS0 (pv 3) (pv 5))) (pet_replA (pet_replA (CwR.pet_replC (pv 6)) (pv 3)) (pv 4))))
      (PSsT.of (pss_one (ps_ret (pe_tup (pa_cons (pe_op op_add (pe_op op_mul (pe_callB call_len_str (by rfl) T.z_len PySem.boot_len (pa_cons (pv 6) pa_nil)) (pv 1)) (pe_op op_mul (pe_op op_sub (pe_callB call_len_str (by rfl) T.z_len PySem.boot_len (pa_cons (pv 7) pa_nil)) (pe_callB call_len_str (by rfl) T.z_len PySem.boot_len (pa_cons (pv 6) pa_nil))) (pv 2))) (pa_cons (pv 7) pa_nil))))))))))), ?_⟩
    have ld : sizeLine = 16777216 := by decide
    have p62 : (2 : Int) ^ 62 = 4611686018427387904 := by decide
    have p64 : (2 : Int) ^ 64 = 18446744073709551616 := by decide
    generalize en : N.natAbs = n at hn
    have eN : (if N < 0 then -N else N) = ((n : Nat) : Int) := by rw [natAbs_if, en]
    refine ⟨.int N, rfl, N, rfl, ?_⟩
    refine ⟨.int D, rfl, D, rfl, d1, d2, ?_⟩
    refine ⟨.int S, rfl, S, rfl, p1, p2, ?_⟩
    refine ⟨.int N, rfl, _, _, rfl, rfl, _, rfl, ?_⟩
    show ite _ _ _
    refine if_way (n := n) en.symm fun up down g0 p way gN np => ?_
    have s1 : Same H (upd H p (.tup [.str (wUp up), .str (wUp down)])) := same_upd np
    have k1 : SqT K (upd H p (.tup [.str (wUp up), .str (wUp down)])) p [.str (wUp up), .str (wUp down)] := SqT.of upd_same
    generalize upd H p (.tup [.str (wUp up), .str (wUp down)]) = H1 at s1 k1
    refine ⟨p, _, rfl, k1, rfl, _, _, rfl, _, _, rfl, rfl, ?_⟩
    refine ⟨.int N, rfl, N, rfl, ?_⟩
    rw [eN]
    have eh := half_eq d1 p1
    have hh := half_le d1 d2 p1
    refine ⟨.int D, rfl, _, _, rfl, rfl, .int S, rfl, _, _, rfl, rfl, ⟨by omega, by omega⟩, ?_⟩
    refine ⟨n, halfOf D S, B, by rw [eh]; rfl, by omega, hn, hB, fun H2 q2 ff zr s2 nq kq bg => ?_⟩
    obtain ⟨d, r, pk, rr, rg, rv, rl, ef, et⟩ := bg
    subst ef
    have h1 := pick_small pk
    have h2 := pick_places pk hn
    have h3 := pick_least d1 p1 eh pk
    have ff : firstOf n r d ≤ 200 := by
      unfold firstOf
      split <;> omega
    have lr : zr.length = d := by
      have := congrArg List.length et
      rw [Array.length_toList, List.length_reverse, List.length_map, rowOf_len] at this
      exact this
    refine ⟨q2, _, rfl, SqT.of kq, rfl, _, _, rfl, _, _, rfl, rfl, ?_⟩
    have hu : up = 117 ∨ up = 119 := by
      rcases way with ⟨rfl, _, _⟩ | ⟨rfl, _, _⟩ <;> simp
    have hdn : down = 117 ∨ down = 119 := by
      rcases way with ⟨_, rfl, _⟩ | ⟨_, rfl, _⟩ <;> simp
    have hw : ∀ c : Nat, (wUp c).length = 1 := fun _ => rfl
    have hdw : ∀ c : Nat, (Str.ofString "d" ++ wUp c).length = 2 := fun _ => rfl
    have hsd : (Str.ofString "d").length = 1 := rfl
    have eq1 : ((Str.ofString "1") == Str.ofString "d" ++ wUp up) = false := by
      rcases hu with rfl | rfl <;> decide
    have eq2 : ((Str.ofString "2") == Str.ofString "d" ++ wUp down) = false := by
      rcases hdn with rfl | rfl <;> decide
    refine ⟨.str (wUp up), rfl, .int ((firstOf n r d : Nat) : Int), rfl, wUp up, firstOf n r d, rfl, rfl, by omega, by rw [hw]; omega, by rw [hw]; omega, fun o eo => ?_⟩
    have eo2 : o.cps.toList = List.replicate (firstOf n r d) up := by
      rw [eo]
      exact rep_flat up _
    have lo : o.length = firstOf n r d := by
      have := congrArg List.length eo2
      rw [Array.length_toList, List.length_replicate] at this
      exact this
    refine ⟨.str zr, rfl, zr, rfl, by rw [hsd]; omega, ?_⟩
    have e0 : (Txt.replace zr (Str.ofString "0") (Str.ofString "d")).cps.toList = each 48 [100] zr.cps.toList := replace_each zr (Str.ofString "d") 48
    generalize Txt.replace zr (Str.ofString "0") (Str.ofString "d") = z1 at e0
    have l1 : z1.length ≤ 2 * zr.length := each_size e0
    refine ⟨z1, rfl, .str (wUp up), rfl, wUp up, rfl, by rw [hw]; omega, by rw [hw, hsd]; omega, eq1, by rw [hdw]; omega, ?_⟩
    have e1 : (Txt.replace z1 (Str.ofString "1") (Str.ofString "d" ++ wUp up)).cps.toList = each 49 [100, up] z1.cps.toList := replace_each z1 (Str.ofString "d" ++ wUp up) 49
    generalize Txt.replace z1 (Str.ofString "1") (Str.ofString "d" ++ wUp up) = z2 at e1
    have l2 : z2.length ≤ 3 * z1.length := each_size e1
    refine ⟨z2, rfl, .str (wUp down), rfl, wUp down, rfl, by rw [hw]; omega, by rw [hw, hsd]; omega, eq2, by rw [hdw]; omega, ?_⟩
    have e2 : (Txt.replace z2 (Str.ofString "2") (Str.ofString "d" ++ wUp down)).cps.toList = each 50 [100, down] z2.cps.toList := replace_each z2 (Str.ofString "d" ++ wUp down) 50
    generalize Txt.replace z2 (Str.ofString "2") (Str.ofString "d" ++ wUp down) = z3 at e2
    have l3 : z3.length ≤ 3 * z2.length := each_size e2
    have e3 : z3.cps.toList = ((rowOf r d).reverse.map (figD up down)).flatten := by
      rw [e2, e1, e0, et, ← List.map_reverse, each_row up down hu]
    refine ⟨o, z3, rfl, rfl, by omega, ?_⟩
    have ez : (o ++ z3).cps.toList = plan up down (firstOf n r d) (rowOf r d) := by
      rw [app_list, eo2, e3]
      rfl
    have told : LeastTold D S N (o ++ z3) := ⟨d, r, up, down, g0, by rw [en]; exact pk, way, rr, rg, by rw [en]; exact rv, rl, by rw [en]; exact gN, by rw [en]; exact ez⟩
    obtain ⟨c1, c2⟩ := plan_size way rr rg rv rl
    generalize o ++ z3 = z at ez told
    have lz : z.length = d + (n / 2 ^ d + W (n % 2 ^ d)) := by
      have := congrArg List.length ez
      rw [Array.length_toList, c2] at this
      exact this
    have lz2 : z.length ≤ 100000 := (told_facts d1 d2 p1 (by rw [en]; exact hn) hB told).2.1
    refine ⟨.str zr, rfl, zr, rfl, by omega, .int D, rfl, _, _, rfl, rfl, .inr ⟨by omega, by omega⟩, .str z, rfl, z, rfl, by omega, .str zr, rfl, zr, rfl, by omega, _, _, rfl, rfl, .int S, rfl, _, _, rfl, rfl, .inr ⟨by omega, by omega⟩, _, _, rfl, rfl, .str z, rfl, (by show 2 ≤ sizeLine; omega), fun p3 np3 => ?_⟩
    have s12 := s1.trans s2
    have eC : (zr.length : Int) * D + ((z.length : Int) - (zr.length : Int)) * S = G D S N := by
      have eG : g D S n = G D S N := by rw [G, en]
      rw [lr, lz, ← eG, ← h3]
      unfold f
      congr 2
      omega
    refine q _ p3 z (s12.trans (same_upd np3)) (XParts.none_back s12 np3) ?_ told
    rw [← eC]
    exact upd_same
/-! ### what is told of the least deeds, looked at -/
def dIS (n : Int) (z : Str) : PyData := .tuple [.int n, .str z]
theorem dIS_shaped {n : Int} {z : Str} (h : PyData.canLay0 (.str z) = true) : SeqAt.shaped (dIS n z) = true := by
  unfold SeqAt.shaped dIS
  rw [Bool.and_eq_true]
  refine ⟨?_, decide_eq_true ?_⟩
  · simp only [PyData.canLay0, PyData.canLayAll0] at h ⊢
    simp [h]
  · simp [PyData.depth, PyData.depthAll]
theorem dIS_eqv (n : Int) (z : Str) : PyData.eqv (dIS n z) (dIS n z) = true := by
  simp [dIS, PyData.eqv, PyData.eqvAll]
theorem dp_IS {K : PySem.W.Frag} {H : Hp} {a : Addr} {n : Int} {z : Str} (h : SqT K H a [.int n, .str z]) : Dp K H (.ref a) (dIS n z) := .tup h (.cons (.int n) (.cons (.str z) .nil))
theorem lay_okS {z : Str} (h : okS z = true) : PyData.canLay0 (.str z) = true := by
  have e : PyData.strOk z = true := by
    unfold PyData.strOk
    rw [← Array.all_toList, List.all_eq_true]
    intro c hc
    have := okS_mem h c hc
    refine decide_eq_true ?_
    omega
  simp only [PyData.canLay0]
  exact e
theorem tup_ty {K : PySem.W.Frag} {H : Hp} {p : Addr} {xs : List V} (h : H p = some (.tup xs)) : ∃ t, TyX K H (.ref p) t ∧ PySem.W.kitOne K t (.type "tuple") = some true := ⟨_, .base (.tup h), kit_ty (by decide +kernel)⟩
def sp_Ltold (K : PySem.W.Frag) : Sp := fun vs H Q _ => ∃ (N D S : Int) (B : Nat), vs = [.int N, .int D, .int S] ∧ 1 ≤ D ∧ D ≤ 50 ∧ 1 ≤ S ∧ S ≤ 50 ∧ N.natAbs < 2 ^ B ∧ B ≤ 40000 ∧ ∀ H', Same H H' → Q (.int (G D S N)) H'
theorem ok_Ltold (T : Txt K mg) : FnOk P w K mg base CX0 7 T.a_Ltold T.d_Ltold p_Ltold (sp_Ltold K) := by
  refine T.F_Ltold.ok sc_Ltold (fun vs H Q E h => ?_) (fun cdv A outer s H vs Q E hr h => ?_)
  · obtain ⟨_, _, _, _, rfl, _⟩ := h
    rfl
  · obtain ⟨N, D, S, B, rfl, d1, d2, p1, p2, hn, hB, q⟩ := h
    refine ⟨_, pss_cons (ps_set (i := 3) sc_Ltold.nd rfl (.inl rfl) (pe_call (ok_least_good T) hr (by rfl) T.g_least T.F_least.kp T.b_least .nil pass0 (pa_cons (pv 0) (pa_cons (pv 1) (pa_cons (pv 2) pa_nil)))))
      (pss_cons (ps_if (PW.pt (pw_or (pt_not (pt_val (pe_callB call_isi (by rfl) T.z_isinstance (by decide +kernel) (pa_cons (pv 3) (pa_cons (pe_bltn (v := .ty "tuple") (by rfl) T.z_tuple (by decide +kernel) rfl) pa_nil)))))
          (pw_or (pt_cmpR op_ne (pe_callB call_len_seq (by rfl) T.z_len PySem.boot_len (pa_cons (pv 3) pa_nil)) pe_int (nomark _))
          (pw_or (pt_not (pt_val (pe_call (ok_Lwhole T) (hr.mono (by decide)) (by rfl) T.g_Lwhole T.F_Lwhole.kp T.b_Lwhole .nil pass0 (pa_cons (pe_ix (r := rIxT K) ix_tup (pv 3) pe_int (fun _ _ => rfl)) pa_nil))))
          (pw_or1 (pt_not (pt_val (pe_callB call_isi (by rfl) T.z_isinstance (by decide +kernel) (pa_cons (pe_ix (r := rIxT K) ix_tup (pv 3) pe_int (fun _ _ => rfl)) (pa_cons (pe_bltn (v := .ty "str") (by rfl) T.z_str (by decide +kernel) rfl) pa_nil))))))))))
        (pss_one (ps_ret pe_non)) pss_nil)
      (pss_cons (ps_if (PW.pt (pw_or (pt_cmpR op_ne (pe_call (ok_led T) (hr.mono (by decide)) (by rfl) T.g_led T.F_led.kp T.b_led .nil pass0 (pa_cons (pe_ix (r := rIxT K) ix_tup (pv 3) pe_int (fun _ _ => rfl)) pa_nil)) (pv 0) (nomark _))
          (pw_or (pt_cmpR op_ne (pe_call (ok_cost T) (hr.mono (by decide)) (by rfl) T.g_cost_of T.F_cost_of.kp T.b_cost_of .nil pass0 (pa_cons (pe_ix (r := rIxT K) ix_tup (pv 3) pe_int (fun _ _ => rfl)) (pa_cons (pv 1) (pa_cons (pv 2) pa_nil)))) (pe_ix (r := rIxT K) ix_tup (pv 3) pe_int (fun _ _ => rfl)) (nomark _))
          (pw_or1 (pt_cmpR (op_neD hr.units) (pe_call (ok_least_good T) hr (by rfl) T.g_least T.F_least.kp T.b_least .nil pass0 (pa_cons (pv 0) (pa_cons (pv 1) (pa_cons (pv 2) pa_nil)))) (pv 3) (nomark _))))))
        (pss_one (ps_ret pe_non)) pss_nil)
      (pss_one (ps_ret (pe_ix (r := rIxT K) ix_tup (pv 3) pe_int (fun _ _ => rfl)))))), ?_⟩
    refine ⟨.int N, rfl, .int D, rfl, .int S, rfl, N, D, S, B, rfl, d1, d2, p1, p2, hn, hB, fun H1 p z s1 np ep told => ?_⟩
    obtain ⟨okz, lz, gz, cz⟩ := told_facts d1 d2 p1 hn hB told
    have sq : SqT K H1 p [.int (G D S N), .str z] := SqT.of ep
    obtain ⟨t, ty, h3⟩ := tup_ty (K := K) ep
    refine ⟨.ref p, rfl, .ref p, _, t, _, true, rfl, .ty _, ty, h3, true, rfl, ?_⟩
    refine iteF ⟨.ref p, rfl, p, _, rfl, .inr sq, rfl, _, rfl, ?_⟩
    refine iteF ⟨.ref p, rfl, p, _, 0, .int (G D S N), rfl, rfl, sq, rfl, .int (G D S N), rfl, plain_int _, true, rfl, ?_⟩
    obtain ⟨t2, ty2, h4⟩ := str_ty (K := K) (H := H1) z
    refine iteF ⟨.ref p, rfl, p, _, 1, .str z, rfl, rfl, sq, rfl, .str z, _, t2, _, true, rfl, .ty _, ty2, h4, true, rfl, ?_⟩
    refine iteF ?_
    refine ⟨.ref p, rfl, p, _, 1, .str z, rfl, rfl, sq, rfl, z, rfl, lz, okz, fun H2 s2 => ?_⟩
    refine ⟨.int N, rfl, rfl, _, rfl, ?_⟩
    rw [gz, decide_eq_true rfl]
    have sq2 := sqT_same sq s2
    refine iteF ⟨.ref p, rfl, p, _, 1, .str z, rfl, rfl, sq2, rfl, .int D, rfl, .int S, rfl, z, D, S, rfl, lz, okz, d1, d2, p1, p2, fun H3 s3 => ?_⟩
    have sq3 := sqT_same sq2 s3
    refine ⟨.ref p, rfl, p, _, 0, .int (G D S N), rfl, rfl, sq3, rfl, rfl, _, rfl, ?_⟩
    rw [cz, decide_eq_true rfl]
    refine iteF ⟨.int N, rfl, .int D, rfl, .int S, rfl, N, D, S, B, rfl, d1, d2, p1, p2, hn, hB, fun H4 p4 z4 s4 np4 ep4 told4 => ?_⟩
    have ez := told_unique told4 told
    subst ez
    have sq4 := sqT_same sq3 s4
    have ly := lay_okS okz
    refine ⟨.ref p, rfl, dIS (G D S N) z4, dIS (G D S N) z4, dp_IS (SqT.of ep4), dp_IS sq4, dIS_shaped ly, dIS_shaped ly, _, rfl, ?_⟩
    rw [dIS_eqv]
    refine iteF ?_
    exact ⟨.ref p, rfl, p, _, 0, .int (G D S N), rfl, rfl, sq4, rfl, q _ (s1.trans (s2.trans (s3.trans s4)))⟩
/-! ### the law's right -/
def sp_Lright (K : PySem.W.Frag) : Sp := fun vs H Q _ => ∃ (N D S : Int) (B : Nat), vs = [.int N, .int D, .int S] ∧ 1 ≤ D ∧ D ≤ 50 ∧ 1 ≤ S ∧ S ≤ 50 ∧ N.natAbs < 2 ^ B ∧ B ≤ 39000 ∧ ∀ H', Same H H' → Q (.bl true) H'
theorem five_lt {N : Int} {B : Nat} (h : N.natAbs < 2 ^ B) : ∀ y ∈ [N, N + 1, N - 1, 2 * N, 0 - N], y.natAbs < 2 ^ (B + 1) := by
  have p := Nat.two_pow_pos B
  have e : 2 ^ (B + 1) = 2 * 2 ^ B := by rw [Nat.pow_succ]; omega
  rw [e]
  generalize 2 ^ B = P at *
  intro y hy
  simp only [List.mem_cons, List.not_mem_nil, or_false] at hy
  rcases hy with rfl | rfl | rfl | rfl | rfl <;> omega
theorem ok_Lright (T : Txt K mg) : FnOk P w K mg base CX0 8 T.a_Lright T.d_Lright p_Lright (sp_Lright K) := by
  refine T.F_Lright.ok sc_Lright (fun vs H Q E h => ?_) (fun cdv A outer s H vs Q E hr h => ?_)
  · obtain ⟨_, _, _, _, rfl, _⟩ := h
    rfl
  · obtain ⟨N, D, S, B, rfl, d1, d2, p1, p2, hn, hB, q⟩ := h
    refine ⟨_, pss_cons (ps_setLc (i := 3) (own := [("_law_one", 9)]) (g := gName 9) (tt := tYes) (by rfl) sc_Lright.nd rfl rfl (sw_true rfl rfl rfl (by decide +kernel)) (pi_tup (pe_tup (pa_cons (pv 0) (pa_cons (pe_op op_add (pv 0) pe_int) (pa_cons (pe_op op_sub (pv 0) pe_int) (pa_cons (pe_op op_mul pe_int (pv 0)) (pa_cons (pe_op op_sub pe_int (pv 0)) pa_nil)))))))
        (blkOk_by (N := ["_law_number_here", "_law_double", "_law_step", "_law_costs", "_law_here", "_law_above", "_law_below", "_law_twice", "_law_turned_about", "_law_one"]) (own := [("_law_one", 9)]) (sc := defScope t_Lright) (by decide +kernel))
        (fun _ _ _ _ _ => pg_name (i := 9) sc_Lright.nd rfl (Or.inl rfl)) (fun _ _ _ _ _ => pts_nil)
        (fun _ _ _ _ _ => pe_call (ok_Ltold T) (by exact hr) (by rfl) T.g_Ltold T.F_Ltold.kp T.b_Ltold .nil pass0 (pa_cons (pv 9) (pa_cons (pv 1) (pa_cons (pv 2) pa_nil)))))
      (pss_cons (ps_if (pt_cmpR op_in_seq pe_non (pv 3) (by rfl)) (pss_one (ps_ret pe_bl)) pss_nil)
      (pss_cons (ps_asg (pv 3) (pg_lst rfl (pgs_cons (pg_name (i := 4) sc_Lright.nd rfl (.inl rfl)) (pgs_cons (pg_name (i := 5) sc_Lright.nd rfl (.inl rfl)) (pgs_cons (pg_name (i := 6) sc_Lright.nd rfl (.inl rfl)) (pgs_cons (pg_name (i := 7) sc_Lright.nd rfl (.inl rfl)) (pgs_cons (pg_name (i := 8) sc_Lright.nd rfl (.inl rfl)) pgs_nil)))))))
      (pss_cons (ps_if (PW.pt (pw_or (pt_cmpR op_gt (pv 4) (pe_op op_add (pv 5) (pv 2)) (nomark _)) (pw_or (pt_cmpR op_gt (pv 5) (pe_op op_add (pv 4) (pv 2)) (nomark _))
          (pw_or (pt_cmpR op_gt (pv 4) (pe_op op_add (pv 6) (pv 2)) (nomark _)) (pw_or1 (pt_cmpR op_gt (pv 6) (pe_op op_add (pv 4) (pv 2)) (nomark _))))))) (pss_one (ps_ret pe_bl)) pss_nil)
      (pss_one (ps_ret (pe_and (pe_cmpR op_le (pv 7) (pe_op op_add (pv 4) (pv 1)) (nomark _)) (pe_one (pe_cmpR op_eq (pv 8) (pv 4) (nomark _))))))))), ?_⟩
    have ld : sizeLine = 16777216 := by decide
    have p64 : (2 : Int) ^ 64 = 18446744073709551616 := by decide
    refine ⟨.int N, rfl, .int N, rfl, _, _, rfl, rfl, .int N, rfl, _, _, rfl, rfl, .int N, rfl, _, _, rfl, rfl, .inl (by omega), .int N, rfl, _, _, rfl, rfl, (by show 5 ≤ sizeLine; omega), fun t nt => ?_⟩
    have s1 : Same H (upd H t (.tup ([N, N + 1, N - 1, 2 * N, 0 - N].map V.int))) := same_upd nt
    have k1 : SqT K (upd H t (.tup ([N, N + 1, N - 1, 2 * N, 0 - N].map V.int))) t ([N, N + 1, N - 1, 2 * N, 0 - N].map V.int) := SqT.of upd_same
    have five := five_lt hn
    show _
    refine ⟨t, rfl, ⟨_, k1⟩, fun Dd nD => ?_⟩
    have e5 : [V.int N, .int (N + 1), .int (N - 1), .int (2 * N), .int (0 - N)] = [N, N + 1, N - 1, 2 * N, 0 - N].map V.int := rfl
    have eH : upd H t (.tup [V.int N, .int (N + 1), .int (N - 1), .int (2 * N), .int (0 - N)]) = upd H t (.tup ([N, N + 1, N - 1, 2 * N, 0 - N].map V.int)) := rfl
    refine lc_tup (K := K) (a := t) (xs := [N, N + 1, N - 1, 2 * N, 0 - N].map V.int) (fun i Hx => Same (upd H t (.tup ([N, N + 1, N - 1, 2 * N, 0 - N].map V.int))) Hx ∧ Hx Dd = some (.lst ((([N, N + 1, N - 1, 2 * N, 0 - N].take i).map (G D S)).map V.int))) ⟨same_upd nD, upd_same⟩ (fun i Hx _ e => sqT_same k1 e.1) (fun i x Hx hx e => ?_) (fun Hx e => ?_)
    · obtain ⟨sx, eD⟩ := e
      obtain ⟨y, hy, rfl⟩ : ∃ y, [N, N + 1, N - 1, 2 * N, 0 - N][i]? = some y ∧ x = .int y := by
        rw [List.getElem?_map] at hx
        cases e : [N, N + 1, N - 1, 2 * N, 0 - N][i]? with
        | none => rw [e] at hx; cases hx
        | some y => rw [e] at hx; exact ⟨y, rfl, (Option.some.inj hx).symm⟩
      have hyb := five y (List.mem_of_getElem? hy)
      refine ⟨rfl, .int y, rfl, .int D, rfl, .int S, rfl, y, D, S, B + 1, rfl, d1, d2, p1, p2, hyb, by omega, fun H2 s2 => ?_⟩
      refine ⟨_, s2 _ _ eD, ?_, fun b o e => ?_, ?_⟩
      · rw [List.length_map, List.length_map, List.length_take]
        show min i 5 < sizeLine
        omega
      · rw [upd_ne (ne_of_none e nD)]
        exact s2 _ _ (sx _ _ e)
      · rw [upd_same, List.take_add_one, hy, List.map_append, List.map_append]
        rfl
    · obtain ⟨sx, eD⟩ := e
      have eD2 : Hx Dd = some (.lst [.int (G D S N), .int (G D S (N + 1)), .int (G D S (N - 1)), .int (G D S (2 * N)), .int (G D S (0 - N))]) := eD
      have sq : SqL K Hx Dd [.int (G D S N), .int (G D S (N + 1)), .int (G D S (N - 1)), .int (G D S (2 * N)), .int (G D S (0 - N))] := SqL.of eD2
      have tx := s1.trans sx
      have u1 := G_up D S (by omega) (by omega) N
      have u2 := G_up D S (by omega) (by omega) (N - 1)
      have u3 := G_double D S (by omega) N
      have u4 := G_neg D S N
      rw [show N - 1 + 1 = N by omega] at u2
      rw [show (0 : Int) - N = -N by omega] at sq
      rw [u4] at sq
      refine ⟨.ref Dd, rfl, Dd, _, rfl, .inl sq, rfl, rfl, _, rfl, ?_⟩
      refine iteF ?_
      refine ⟨.ref Dd, rfl, Dd, _, rfl, sq, rfl, _, _, rfl, _, _, rfl, _, _, rfl, _, _, rfl, _, _, rfl, rfl, ?_⟩
      generalize G D S N = a at *
      generalize G D S (N + 1) = b at *
      generalize G D S (N - 1) = c at *
      generalize G D S (2 * N) = e at *
      refine ⟨.int a, rfl, .int b, rfl, .int S, rfl, _, _, rfl, rfl, _, _, rfl, rfl, _, rfl, ?_⟩
      rw [decide_eq_false (by omega)]
      refine iteF ⟨.int b, rfl, .int a, rfl, .int S, rfl, _, _, rfl, rfl, _, _, rfl, rfl, _, rfl, ?_⟩
      rw [decide_eq_false (by omega)]
      refine iteF ⟨.int a, rfl, .int c, rfl, .int S, rfl, _, _, rfl, rfl, _, _, rfl, rfl, _, rfl, ?_⟩
      rw [decide_eq_false (by omega)]
      refine iteF ⟨.int c, rfl, .int a, rfl, .int S, rfl, _, _, rfl, rfl, _, _, rfl, rfl, _, rfl, ?_⟩
      rw [decide_eq_false (by omega)]
      refine iteF ?_
      refine ⟨.int e, rfl, .int a, rfl, .int D, rfl, _, _, rfl, rfl, _, _, rfl, rfl, _, rfl, ?_⟩
      rw [decide_eq_true (by omega)]
      refine iteT ⟨.int a, rfl, .int a, rfl, rfl, ?_⟩
      rw [decide_eq_true rfl]
      exact q _ tx
/-! ### the law's number -/
theorem abs_lt {z : Int} {k : Nat} {b : Int} (h1 : -b < z) (h2 : z < b) (hb : b = ((2 ^ k : Nat) : Int)) : z.natAbs < 2 ^ k := by omega
theorem two_le {k m : Nat} (h : k ≤ m) : (2 : Int) ^ k ≤ 2 ^ m := by
  have z := Nat.pow_le_pow_right (n := 2) (by decide) h
  have c1 : ((2 ^ k : Nat) : Int) = (2 : Int) ^ k := Int.natCast_pow 2 k
  have c2 : ((2 ^ m : Nat) : Int) = (2 : Int) ^ m := Int.natCast_pow 2 m
  omega
def sp_Lnumber (K : PySem.W.Frag) : Sp := fun vs H Q _ => ∃ c : Int, vs = [.int c] ∧ ∀ H' z, Same H H' → z.natAbs < 2 ^ 210 → Q (.int z) H'
theorem ok_Lnumber (T : Txt K mg) : FnOk P w K mg base CX0 1 T.a_Lnumber T.d_Lnumber p_Lnumber (sp_Lnumber K) := by
  refine T.F_Lnumber.ok sc_Lnumber (fun vs H Q E h => ?_) (fun cdv A outer s H vs Q E hr h => ?_)
  · obtain ⟨_, rfl, _⟩ := h
    rfl
  · obtain ⟨c, rfl, q⟩ := h
    refine ⟨_, pss_cons (ps_set (i := 1) sc_Lnumber.nd rfl (.inl rfl) (pe_op op_fdiv (pv 0) pe_int))
      (pss_cons (ps_set (i := 2) sc_Lnumber.nd rfl (.inl rfl) pe_int)
      (pss_cons (ps_for PassesOwn.never rfl (pi_range1 (by rfl) T.z_range (pa_cons (pe_op op_mod (pe_op op_fdiv (pv 1) pe_int) pe_int) pa_nil)) (pg_name (i := 3) sc_Lnumber.nd rfl (.inl rfl))
        (pss_one (ps_set (i := 2) sc_Lnumber.nd rfl (.inl rfl) (pe_op op_mul (pv 2) pe_int))))
      (pss_cons (ps_set (i := 4) sc_Lnumber.nd rfl (.inl rfl) (pe_lst (pa_cons (pe_op op_sub (pe_op op_mod (pv 1) pe_int) pe_int)
        (pa_cons (pe_op op_sub (pe_op op_add (pv 2) (pe_op op_mod (pv 1) pe_int)) pe_int)
        (pa_cons (pe_op op_sub (pe_op op_add (pe_op op_fdiv (pv 2) pe_int) (pe_op op_mod (pv 1) pe_int)) pe_int)
        (pa_cons (pe_op op_sub (pe_op op_add (pe_op op_sub pe_int (pv 2)) (pe_op op_mod (pv 1) pe_int)) pe_int) pa_nil))))))
      (pss_cons (ps_set (i := 5) sc_Lnumber.nd rfl (.inl rfl) (pe_op op_sub (pe_op op_mod (pe_op op_mul (pv 1) pe_int) (pe_op op_add (pe_op op_mul pe_int (pe_op op_pow pe_int pe_int)) pe_int)) (pe_op op_pow pe_int pe_int)))
      (pss_one (ps_ret (pe_ix ix_list (pe_op op_cat (pv 4) (pe_lst (pa_cons (pv 5) (pa_cons (pv 5) (pa_cons (pe_op op_sub (pe_op op_mod (pv 0) (pe_op op_add (pe_op op_mul pe_int (pe_op op_pow pe_int pe_int)) pe_int)) (pe_op op_pow pe_int pe_int))
        (pa_cons (pe_op op_sub (pe_op op_mod (pv 1) pe_int) pe_int) pa_nil)))))) (pe_op op_mod (pv 0) pe_int) (fun _ _ => rfl)))))))), ?_⟩
    have big : (2 * 10 ^ 60 + 1 : Int) = 2000000000000000000000000000000000000000000000000000000000001 := by decide
    have ten : (10 : Int) ^ (60 : Int).toNat = 1000000000000000000000000000000000000000000000000000000000000 := by decide
    refine ⟨.int c, rfl, _, _, rfl, rfl, ⟨by decide, by decide⟩, ?_⟩
    have m0 := Int.emod_nonneg (c / 8 / 9) (show (200 : Int) ≠ 0 by decide)
    have m1 := Int.emod_lt_of_pos (c / 8 / 9) (show (0 : Int) < 200 by decide)
    refine ⟨.int (c / 8), rfl, _, _, rfl, rfl, ⟨by decide, by decide⟩, _, _, rfl, rfl, (by show (0 : Int) < 200; decide), c / 8 / 9 % 200, rfl, by omega, by omega, ?_⟩
    refine for_range (lo := 0) (n := (c / 8 / 9 % 200).toNat) (fun i σ H1 => H1 = H ∧ ∃ y, σ = [some (.int c), some (.int (c / 8)), some (.int (2 ^ i)), y, none, none]) ⟨rfl, _, rfl⟩ (fun i σ H1 hi e => ?_) (fun σ H1 e => ?_)
    · obtain ⟨rfl, y, rfl⟩ := e
      exact ⟨_, rfl, _, _, rfl, rfl, .inr (by show -(2 ^ 64 : Int) < 2 ∧ (2 : Int) < 2 ^ 64; decide), rfl, _, rfl⟩
    · obtain ⟨rfl, y, rfl⟩ := e
      have hN : (c / 8 / 9 % 200).toNat ≤ 200 := by omega
      have p0 : (0 : Int) < 2 ^ (c / 8 / 9 % 200).toNat := Int.pow_pos (by decide)
      have p1 : (2 : Int) ^ (c / 8 / 9 % 200).toNat ≤ 2 ^ 200 := two_le hN
      generalize (2 : Int) ^ (c / 8 / 9 % 200).toNat = p at p0 p1
      have e200 : (2 : Int) ^ 200 = 1606938044258990275541962092341162602522202993782792835301376 := by decide
      rw [e200] at p1
      have e210 : ((2 ^ 210 : Nat) : Int) = 1645504557321206042154969182557350504982735865633579863348609024 := by decide
      refine ⟨.int (c / 8), rfl, _, _, rfl, rfl, (by show (0 : Int) < 23; decide), _, _, rfl, rfl, .int p, rfl, .int (c / 8), rfl, _, _, rfl, rfl, (by show (0 : Int) < 9; decide), _, _, rfl, rfl, _, _, rfl, rfl,
        .int p, rfl, _, _, rfl, rfl, ⟨by decide, by decide⟩, .int (c / 8), rfl, _, _, rfl, rfl, (by show (0 : Int) < 5; decide), _, _, rfl, rfl, _, _, rfl, rfl,
        .int p, rfl, _, _, rfl, rfl, .int (c / 8), rfl, _, _, rfl, rfl, (by show (0 : Int) < 9; decide), _, _, rfl, rfl, _, _, rfl, rfl, small_ok (by simp), fun l nl => ?_⟩
      have s1 : Same H1 (upd H1 l (.lst [.int (c / 8 % 23 - 11), .int (p + c / 8 % 9 - 4), .int (p / 3 + c / 8 % 5 - 2), .int (0 - p + c / 8 % 9 - 4)])) := same_upd nl
      have k1 : (upd H1 l (.lst [.int (c / 8 % 23 - 11), .int (p + c / 8 % 9 - 4), .int (p / 3 + c / 8 % 5 - 2), .int (0 - p + c / 8 % 9 - 4)])) l = some (.lst ([c / 8 % 23 - 11, p + c / 8 % 9 - 4, p / 3 + c / 8 % 5 - 2, 0 - p + c / 8 % 9 - 4].map V.int)) := upd_same
      generalize upd H1 l (.lst [.int (c / 8 % 23 - 11), .int (p + c / 8 % 9 - 4), .int (p / 3 + c / 8 % 5 - 2), .int (0 - p + c / 8 % 9 - 4)]) = H2 at s1 k1
      refine ⟨.int (c / 8), rfl, _, _, rfl, rfl, .inr (by show -(2 ^ 64 : Int) < 48271 ∧ (48271 : Int) < 2 ^ 64; decide), _, _, rfl, rfl, ⟨by decide, by decide, by decide⟩, _, _, rfl, rfl, .inl (by show -(2 ^ 64 : Int) < 2 ∧ (2 : Int) < 2 ^ 64; decide), _, _, rfl, rfl, _, _, rfl, rfl, ?_, _, _, rfl, rfl, ⟨by decide, by decide, by decide⟩, _, _, rfl, rfl, ?_⟩
      · show (0 : Int) < 2 * 10 ^ (60 : Int).toNat + 1
        rw [ten]
        decide
      refine ⟨.ref l, rfl, .int (c / 8 * 48271 % (2 * 10 ^ (60 : Int).toNat + 1) - 10 ^ (60 : Int).toNat), rfl, .int (c / 8 * 48271 % (2 * 10 ^ (60 : Int).toNat + 1) - 10 ^ (60 : Int).toNat), rfl, .int c, rfl, _, _, rfl, rfl, ⟨by decide, by decide, by decide⟩, _, _, rfl, rfl, .inl (by show -(2 ^ 64 : Int) < 2 ∧ (2 : Int) < 2 ^ 64; decide), _, _, rfl, rfl, _, _, rfl, rfl, ?_, _, _, rfl, rfl, ⟨by decide, by decide, by decide⟩, _, _, rfl, rfl,
        .int (c / 8), rfl, _, _, rfl, rfl, (by show (0 : Int) < 2000001; decide), _, _, rfl, rfl, small_ok (by simp), fun l2 nl2 => ?_⟩
      · show (0 : Int) < 2 * 10 ^ (60 : Int).toNat + 1
        rw [ten]
        decide
      have s2 := same_upd (o := .lst [V.int (c / 8 * 48271 % (2 * 10 ^ (60 : Int).toNat + 1) - 10 ^ (60 : Int).toNat), .int (c / 8 * 48271 % (2 * 10 ^ (60 : Int).toNat + 1) - 10 ^ (60 : Int).toNat), .int (c % (2 * 10 ^ (60 : Int).toNat + 1) - 10 ^ (60 : Int).toNat), .int (c / 8 % 2000001 - 1000000)]) nl2
      refine ⟨l, l2, _, _, rfl, rfl, s2 _ _ k1, upd_same, small_ok (by simp), fun l3 nl3 => ?_⟩
      have s3 := same_upd (o := .lst ([c / 8 % 23 - 11, p + c / 8 % 9 - 4, p / 3 + c / 8 % 5 - 2, 0 - p + c / 8 % 9 - 4].map V.int ++ [V.int (c / 8 * 48271 % (2 * 10 ^ (60 : Int).toNat + 1) - 10 ^ (60 : Int).toNat), .int (c / 8 * 48271 % (2 * 10 ^ (60 : Int).toNat + 1) - 10 ^ (60 : Int).toNat), .int (c % (2 * 10 ^ (60 : Int).toNat + 1) - 10 ^ (60 : Int).toNat), .int (c / 8 % 2000001 - 1000000)])) nl3
      have st := s1.trans (s2.trans s3)
      have f0 := Int.emod_nonneg c (show (8 : Int) ≠ 0 by decide)
      have f1 := Int.emod_lt_of_pos c (show (0 : Int) < 8 by decide)
      have w0 := Int.emod_nonneg (c / 8 * 48271) (show (2000000000000000000000000000000000000000000000000000000000001 : Int) ≠ 0 by decide)
      have w1 := Int.emod_lt_of_pos (c / 8 * 48271) (show (0 : Int) < 2000000000000000000000000000000000000000000000000000000000001 by decide)
      have v0 := Int.emod_nonneg c (show (2000000000000000000000000000000000000000000000000000000000001 : Int) ≠ 0 by decide)
      have v1 := Int.emod_lt_of_pos c (show (0 : Int) < 2000000000000000000000000000000000000000000000000000000000001 by decide)
      have eten : (2 * 10 ^ (60 : Int).toNat + 1 : Int) = 2000000000000000000000000000000000000000000000000000000000001 := by rw [ten]; decide
      rw [eten, ten] at st ⊢
      have fin : ∃ z : Int, z.natAbs < 2 ^ 210 ∧ atI ([c / 8 % 23 - 11, p + c / 8 % 9 - 4, p / 3 + c / 8 % 5 - 2, 0 - p + c / 8 % 9 - 4].map V.int ++ [V.int (c / 8 * 48271 % 2000000000000000000000000000000000000000000000000000000000001 - 1000000000000000000000000000000000000000000000000000000000000), .int (c / 8 * 48271 % 2000000000000000000000000000000000000000000000000000000000001 - 1000000000000000000000000000000000000000000000000000000000000), .int (c % 2000000000000000000000000000000000000000000000000000000000001 - 1000000000000000000000000000000000000000000000000000000000000), .int (c / 8 % 2000001 - 1000000)]) (c % 8) = some (.int z) := by
        have cc : c % 8 = ((0 : Nat) : Int) ∨ c % 8 = ((1 : Nat) : Int) ∨ c % 8 = ((2 : Nat) : Int) ∨ c % 8 = ((3 : Nat) : Int) ∨ c % 8 = ((4 : Nat) : Int) ∨ c % 8 = ((5 : Nat) : Int) ∨ c % 8 = ((6 : Nat) : Int) ∨ c % 8 = ((7 : Nat) : Int) := by omega
        rcases cc with e | e | e | e | e | e | e | e <;> rw [e]
        · exact ⟨c / 8 % 23 - 11, abs_lt (b := 1645504557321206042154969182557350504982735865633579863348609024) (by omega) (by omega) e210.symm, atI_nat rfl⟩
        · exact ⟨p + c / 8 % 9 - 4, abs_lt (b := 1645504557321206042154969182557350504982735865633579863348609024) (by omega) (by omega) e210.symm, atI_nat rfl⟩
        · exact ⟨p / 3 + c / 8 % 5 - 2, abs_lt (b := 1645504557321206042154969182557350504982735865633579863348609024) (by omega) (by omega) e210.symm, atI_nat rfl⟩
        · exact ⟨0 - p + c / 8 % 9 - 4, abs_lt (b := 1645504557321206042154969182557350504982735865633579863348609024) (by omega) (by omega) e210.symm, atI_nat rfl⟩
        · exact ⟨_, abs_lt (b := 1645504557321206042154969182557350504982735865633579863348609024) (by omega) (by omega) e210.symm, atI_nat rfl⟩
        · exact ⟨_, abs_lt (b := 1645504557321206042154969182557350504982735865633579863348609024) (by omega) (by omega) e210.symm, atI_nat rfl⟩
        · exact ⟨_, abs_lt (b := 1645504557321206042154969182557350504982735865633579863348609024) (by omega) (by omega) e210.symm, atI_nat rfl⟩
        · exact ⟨c / 8 % 2000001 - 1000000, abs_lt (b := 1645504557321206042154969182557350504982735865633579863348609024) (by omega) (by omega) e210.symm, atI_nat rfl⟩
      obtain ⟨z, hz, hat⟩ := fin
      exact ⟨.int c, rfl, _, _, rfl, rfl, (by show (0 : Int) < 8; decide), l3, _, c % 8, .int z, rfl, rfl, SqL.of upd_same, hat, q _ z st hz⟩
/-! ### the law's great -/
def sp_Lgreat (K : PySem.W.Frag) : Sp := fun vs H Q _ => ∃ c : Int, vs = [.int c] ∧ Q (.int (2 ^ 1100 / 3 + c)) H
theorem ok_Lgreat (T : Txt K mg) : FnOk P w K mg base CX0 1 T.a_Lgreat T.d_Lgreat p_Lgreat (sp_Lgreat K) := by
  refine T.F_Lgreat.ok sc_Lgreat (fun vs H Q E h => ?_) (fun cdv A outer s H vs Q E hr h => ?_)
  · obtain ⟨_, rfl, _⟩ := h
    rfl
  · obtain ⟨c, rfl, q⟩ := h
    refine ⟨_, pss_cons (ps_set (i := 1) sc_Lgreat.nd rfl (.inl rfl) pe_int)
      (pss_cons (ps_for PassesOwn.never rfl (pi_range1 (by rfl) T.z_range (pa_cons pe_int pa_nil)) (pg_name (i := 2) sc_Lgreat.nd rfl (.inl rfl))
        (pss_one (ps_set (i := 1) sc_Lgreat.nd rfl (.inl rfl) (pe_op op_mul (pv 1) pe_int))))
      (pss_one (ps_ret (pe_op op_add (pe_op op_fdiv (pv 1) pe_int) (pv 0))))), ?_⟩
    refine ⟨1100, rfl, by decide, by decide, ?_⟩
    refine for_range (lo := 0) (n := 1100) (fun i σ H1 => H1 = H ∧ ∃ y, σ = [some (.int c), some (.int (2 ^ i)), y]) ⟨rfl, _, rfl⟩ (fun i σ H1 hi e => ?_) (fun σ H1 e => ?_)
    · obtain ⟨rfl, y, rfl⟩ := e
      exact ⟨_, rfl, _, _, rfl, rfl, .inr (by show -(2 ^ 64 : Int) < 2 ∧ (2 : Int) < 2 ^ 64; decide), rfl, _, rfl⟩
    · obtain ⟨rfl, y, rfl⟩ := e
      exact ⟨_, rfl, _, _, rfl, rfl, ⟨by decide, by decide⟩, .int c, rfl, _, _, rfl, rfl, q⟩
/-! ### the law -/
theorem cut26 (ns : List Int) : ∃ ms : List Int, cutV (ns.map V.int) (some 2) (some 26) = ms.map V.int ∧ ms.length ≤ 24 := by
  unfold cutV
  refine ⟨(ns.drop (HT.sIx (ns.map V.int).length 0 (some 2))).take (HT.sIx (ns.map V.int).length (ns.map V.int).length (some 26) - HT.sIx (ns.map V.int).length 0 (some 2)), by rw [List.map_take, List.map_drop], ?_⟩
  rw [List.length_take, List.length_drop]
  have e1 : HT.sIx (ns.map V.int).length 0 (some 2) = min 2 (ns.map V.int).length := HT.sIx_nat _ _ 2
  have e2 : HT.sIx (ns.map V.int).length (ns.map V.int).length (some 26) = min 26 (ns.map V.int).length := HT.sIx_nat _ _ 26
  rw [e1, e2]
  omega
theorem great_lt {M : Int} (h0 : 0 ≤ M) (h1 : M < 2147483629) : (2 ^ 1100 / 3 + M).natAbs < 2 ^ 1102 := by
  have e : ((2 ^ 1102 : Nat) : Int) = 4 * 2 ^ 1100 := by decide +kernel
  have p0 : (2147483629 : Int) < 2 ^ 1100 := by decide +kernel
  generalize (2 : Int) ^ 1100 = W at e p0 ⊢
  omega
theorem half_lt {z : Int} {k : Nat} (h : z.natAbs < 2 ^ k) : (z / 2).natAbs < 2 ^ k := by
  generalize 2 ^ k = P at *
  omega
def sp_law (K : PySem.W.Frag) : Sp := fun vs H Q _ => ∃ (a : Addr) (ns : List Int), vs = [.ref a] ∧ SqL K H a (ns.map V.int) ∧ ns.length ≤ 63 ∧ ∀ H', Q (.bl true) H'
theorem ok_law_at (T : Txt K mg) {f : Addr} {fd : FuncData} (F : Fun K "law" "law" t_law f fd) (b : Binds K fd p_law []) : FnOk P w K mg base CX0 9 f fd p_law (sp_law K) := by
  refine F.ok sc_law (fun vs H Q E h => ?_) (fun cdv A outer s H vs Q E hr h => ?_)
  · obtain ⟨_, _, rfl, _⟩ := h
    rfl
  · obtain ⟨a, ns, rfl, hS, hlen, q⟩ := h
    refine ⟨_, pss_cons (ps_set (i := 1) sc_law.nd rfl (.inl rfl) (pe_call (ok_Lmixed T) (hr.mono (by decide)) (by rfl) T.g_Lmixed T.F_Lmixed.kp T.b_Lmixed .nil pass0 (pa_cons (pe_call (ok_Lcell_at T) (hr.mono (by decide)) (by rfl) T.g_Lcell_at T.F_Lcell_at.kp T.b_Lcell_at .nil pass0 (pa_cons (pv 0) (pa_cons pe_int pa_nil))) (pa_cons pe_int pa_nil))))
      (pss_cons (ps_set (i := 2) sc_law.nd rfl (.inl rfl) (pe_ix ix_list (pe_lst (pa_cons (pe_op op_add pe_int (pe_op op_mod (pv 1) pe_int)) (pa_cons pe_int (pa_cons (pe_op op_add pe_int (pe_op op_mod (pv 1) pe_int)) (pa_cons pe_int pa_nil))))) (pe_op op_mod (pe_op op_fdiv (pv 1) pe_int) pe_int) (fun _ _ => rfl)))
      (pss_cons (ps_set (i := 3) sc_law.nd rfl (.inl rfl) (pe_ix ix_list (pe_lst (pa_cons (pe_op op_add pe_int (pe_op op_mod (pe_op op_fdiv (pv 1) pe_int) pe_int)) (pa_cons pe_int (pa_cons (pe_op op_add pe_int (pe_op op_mod (pe_op op_fdiv (pv 1) pe_int) pe_int)) (pa_cons pe_int pa_nil))))) (pe_op op_mod (pe_op op_fdiv (pv 1) pe_int) pe_int) (fun _ _ => rfl)))
      (pss_cons (ps_if (PW.pt (pw_or (pt_cmpR (op_neD hr.units) (pe_call (ok_least_good T) (hr.mono (by decide)) (by rfl) T.g_least T.F_least.kp T.b_least .nil pass0 (pa_cons pe_int (pa_cons (pv 2) (pa_cons (pv 3) pa_nil)))) (pe_tup (pa_cons pe_int (pa_cons pe_str pa_nil))) (nomark _))
          (pw_or1 (pt_not (pt_val (pe_call (ok_Lright T) hr (by rfl) T.g_Lright T.F_Lright.kp T.b_Lright .nil pass0 (pa_cons (pe_call (ok_Lgreat T) (hr.mono (by decide)) (by rfl) T.g_Lgreat T.F_Lgreat.kp T.b_Lgreat .nil pass0 (pa_cons (pv 1) pa_nil)) (pa_cons (pv 2) (pa_cons (pv 3) pa_nil))))))))) (pss_one (ps_ret pe_bl)) pss_nil)
      (pss_cons (ps_for PassesOwn.never rfl (pi_enum (by rfl) T.z_enumerate (pa_cons (pe_op op_cat (pe_slice sl_list (pv 0) (po_some pe_int) (po_some pe_int)) (pe_lst (pa_cons pe_int pa_nil))) pa_nil)) (pg_tup rfl (pgs_cons (pg_name (i := 4) sc_law.nd rfl (.inl rfl)) (pgs_cons (pg_name (i := 5) sc_law.nd rfl (.inl rfl)) pgs_nil)))
        (pss_cons (ps_set (i := 6) sc_law.nd rfl (.inl rfl) (pe_call (ok_Lnumber T) (hr.mono (by decide)) (by rfl) T.g_Lnumber T.F_Lnumber.kp T.b_Lnumber .nil pass0 (pa_cons (pv 5) pa_nil)))
        (pss_cons (ps_if (pt_cmpR op_gt (pv 4) pe_int (nomark _)) (pss_one (ps_set (i := 6) sc_law.nd rfl (.inl rfl) (pe_op op_mul (pe_op op_mod (pe_callB call_abs (by rfl) T.z_abs (by decide +kernel) (pa_cons (pv 6) pa_nil)) pe_int) (pe_op op_sub pe_int (pe_op op_mul pe_int (pe_callTy call_int1 (by rfl) T.z_int (by decide +kernel) (pa_cons (pe_cmpR op_lt (pv 6) pe_int (nomark _)) pa_nil))))))) pss_nil)
        (pss_cons (ps_if (PW.pt (pw_or (pt_not (pt_val (pe_call (ok_Lright T) hr (by rfl) T.g_Lright T.F_Lright.kp T.b_Lright .nil pass0 (pa_cons (pv 6) (pa_cons (pv 2) (pa_cons (pv 3) pa_nil))))))
            (pw_or1 (PW.pt (pw_and (pt_cmpR op_eq (pv 4) pe_int (nomark _)) (pw_and1 (pt_not (pt_val (pe_call (ok_Lright T) hr (by rfl) T.g_Lright T.F_Lright.kp T.b_Lright .nil pass0 (pa_cons (pv 6) (pa_cons (pv 3) (pa_cons (pv 2) pa_nil)))))))))))) (pss_one (ps_ret pe_bl)) pss_nil)
        (pss_one (ps_while PassesOwn.never (PW.pt (pw_and (pt_chain op_lt op_lt pe_int (pv 4) pe_int) (pw_and1 (pt_cmpR op_notIn_seq (pv 6) (pe_tup (pa_cons pe_int (pa_cons (pe_un un_neg pe_int) pa_nil))) (by rfl)))))
          (pss_cons (ps_set (i := 6) sc_law.nd rfl (.inl rfl) (pe_op op_fdiv (pv 6) pe_int))
          (pss_one (ps_if (pt_not (pt_val (pe_call (ok_Lright T) hr (by rfl) T.g_Lright T.F_Lright.kp T.b_Lright .nil pass0 (pa_cons (pv 6) (pa_cons (pv 2) (pa_cons (pv 3) pa_nil)))))) (pss_one (ps_ret pe_bl)) pss_nil)))))))))
      (pss_one (ps_ret pe_bl)))))), ?_⟩
    have ld : sizeLine = 16777216 := by decide
    have p64 : (2 : Int) ^ 64 = 18446744073709551616 := by decide
    refine ⟨.ref a, rfl, a, ns, 0, rfl, hS, cell ns 0, 1, rfl, by decide, by decide, ?_⟩
    obtain ⟨m0, m1⟩ := mixd_b (cell ns 0) 1
    generalize mixd (cell ns 0) 1 = M at m0 m1
    -- the costs
    refine ⟨.int M, rfl, _, _, rfl, rfl, (by show (0 : Int) < 50; decide), _, _, rfl, rfl, .int M, rfl, _, _, rfl, rfl, (by show (0 : Int) < 9; decide), _, _, rfl, rfl, small_ok (by simp), fun l1 n1 => ?_⟩
    have s1 : Same H (upd H l1 (.lst [.int (1 + M % 50), .int 1, .int (1 + M % 9), .int 50])) := same_upd n1
    have k1 : SqL K (upd H l1 (.lst [.int (1 + M % 50), .int 1, .int (1 + M % 9), .int 50])) l1 [.int (1 + M % 50), .int 1, .int (1 + M % 9), .int 50] := SqL.of upd_same
    generalize upd H l1 (.lst [.int (1 + M % 50), .int 1, .int (1 + M % 9), .int 50]) = H1 at s1 k1
    have four1 : ∃ d, atI [V.int (1 + M % 50), .int 1, .int (1 + M % 9), .int 50] (M / 50 % 4) = some (.int d) ∧ 1 ≤ d ∧ d ≤ 50 := by
      have cc : M / 50 % 4 = ((0 : Nat) : Int) ∨ M / 50 % 4 = ((1 : Nat) : Int) ∨ M / 50 % 4 = ((2 : Nat) : Int) ∨ M / 50 % 4 = ((3 : Nat) : Int) := by omega
      rcases cc with e | e | e | e <;> rw [e]
      · exact ⟨_, atI_nat rfl, by omega, by omega⟩
      · exact ⟨_, atI_nat rfl, by omega, by omega⟩
      · exact ⟨_, atI_nat rfl, by omega, by omega⟩
      · exact ⟨_, atI_nat rfl, by omega, by omega⟩
    obtain ⟨d, hd, d1, d2⟩ := four1
    refine ⟨.int M, rfl, _, _, rfl, rfl, ⟨by decide, by decide⟩, _, _, rfl, rfl, (by show (0 : Int) < 4; decide), l1, _, _, .int d, rfl, rfl, k1, hd, ?_⟩
    refine ⟨.int M, rfl, _, _, rfl, rfl, ⟨by decide, by decide⟩, _, _, rfl, rfl, (by show (0 : Int) < 50; decide), _, _, rfl, rfl, .int M, rfl, _, _, rfl, rfl, ⟨by decide, by decide⟩, _, _, rfl, rfl, (by show (0 : Int) < 9; decide), _, _, rfl, rfl, small_ok (by simp), fun l2 n2 => ?_⟩
    have s2 : Same H1 (upd H1 l2 (.lst [.int (1 + M / 200 % 50), .int 1, .int (1 + M / 200 % 9), .int 1])) := same_upd n2
    have k2 : SqL K (upd H1 l2 (.lst [.int (1 + M / 200 % 50), .int 1, .int (1 + M / 200 % 9), .int 1])) l2 [.int (1 + M / 200 % 50), .int 1, .int (1 + M / 200 % 9), .int 1] := SqL.of upd_same
    generalize upd H1 l2 (.lst [.int (1 + M / 200 % 50), .int 1, .int (1 + M / 200 % 9), .int 1]) = H2 at s2 k2
    have four2 : ∃ d, atI [V.int (1 + M / 200 % 50), .int 1, .int (1 + M / 200 % 9), .int 1] (M / 10000 % 4) = some (.int d) ∧ 1 ≤ d ∧ d ≤ 50 := by
      have cc : M / 10000 % 4 = ((0 : Nat) : Int) ∨ M / 10000 % 4 = ((1 : Nat) : Int) ∨ M / 10000 % 4 = ((2 : Nat) : Int) ∨ M / 10000 % 4 = ((3 : Nat) : Int) := by omega
      rcases cc with e | e | e | e <;> rw [e]
      · exact ⟨_, atI_nat rfl, by omega, by omega⟩
      · exact ⟨_, atI_nat rfl, by omega, by omega⟩
      · exact ⟨_, atI_nat rfl, by omega, by omega⟩
      · exact ⟨_, atI_nat rfl, by omega, by omega⟩
    obtain ⟨st, hst, p1, p2⟩ := four2
    refine ⟨.int M, rfl, _, _, rfl, rfl, ⟨by decide, by decide⟩, _, _, rfl, rfl, (by show (0 : Int) < 4; decide), l2, _, _, .int st, rfl, rfl, k2, hst, ?_⟩
    have t2 := s1.trans s2
    have wE : PyData.canLay0 (.str "") = true := lay_okS (z := "") (by decide +kernel)
    have e0 : G d st 0 = 0 := G_zero d st
    refine ⟨.int d, rfl, .int st, rfl, 0, d, st, 1, rfl, d1, d2, p1, p2, by decide, by decide, fun H3 p z s3 np ep told => ?_⟩
    have ez := told_zero told
    subst ez
    rw [e0] at ep
    refine ⟨(by show 2 ≤ sizeLine; omega), fun p4 np4 => ?_⟩
    have s4 : Same H3 (upd H3 p4 (.tup [.int 0, .str ""])) := same_upd np4
    refine ⟨dIS 0 "", dIS 0 "", dp_IS (SqT.of (s4 _ _ ep)), dp_IS (SqT.of upd_same), dIS_shaped wE, dIS_shaped wE, _, rfl, ?_⟩
    rw [dIS_eqv]
    refine iteF ?_
    generalize upd H3 p4 (.tup [.int 0, .str ""]) = H4 at s4
    have t4 := t2.trans (s3.trans s4)
    refine ⟨.int M, rfl, M, rfl, .int d, rfl, .int st, rfl, 2 ^ 1100 / 3 + M, d, st, 1102, rfl, d1, d2, p1, p2, great_lt m0 m1, by decide, fun H5 s5 => ⟨true, rfl, ?_⟩⟩
    refine iteF ?_
    have t5 := t4.trans s5
    -- the numbers
    refine ⟨.ref a, rfl, 2, rfl, 26, rfl, a, ns.map V.int, rfl, t5.seq hS, fun c1 nc1 => ?_⟩
    obtain ⟨ms, ems, lms⟩ := cut26 ns
    rw [ems]
    have s6 : Same H5 (upd H5 c1 (.lst (ms.map V.int))) := same_upd nc1
    have k6 : (upd H5 c1 (.lst (ms.map V.int))) c1 = some (.lst (ms.map V.int)) := upd_same
    generalize upd H5 c1 (.lst (ms.map V.int)) = H6 at s6 k6
    refine ⟨small_ok (by simp), fun c2 nc2 => ?_⟩
    have s7 : Same H6 (upd H6 c2 (.lst [.int 7])) := same_upd nc2
    have k7 : (upd H6 c2 (.lst [.int 7])) c2 = some (.lst [.int 7]) := upd_same
    have k67 := s7 _ _ k6
    generalize upd H6 c2 (.lst [.int 7]) = H7 at s7 k7 k67
    refine ⟨c1, c2, _, _, rfl, rfl, k67, k7, (by rw [List.length_map]; show ms.length + 1 ≤ sizeLine; omega), fun c3 nc3 => ?_⟩
    have s8 : Same H7 (upd H7 c3 (.lst (ms.map V.int ++ [.int 7]))) := same_upd nc3
    have k8 : SqL K (upd H7 c3 (.lst (ms.map V.int ++ [.int 7]))) c3 ((ms ++ [7]).map V.int) := by
      rw [List.map_append]
      exact SqL.of upd_same
    generalize upd H7 c3 (.lst (ms.map V.int ++ [.int 7])) = H8 at s8 k8
    generalize ms ++ [7] = xs at k8
    have t8 := t5.trans (s6.trans (s7.trans s8))
    clear s1 s2 s3 s4 s5 s6 s7 s8 k1 k2 k6 k7 k67 t2 t4 t5 ep told hd hst ems lms
    refine ⟨c3, xs.map V.int, rfl, k8, ?_⟩
    refine for_enum (xs := xs.map V.int) (fun i σ Hx => Same H8 Hx ∧ ∃ y4 y5 y6, σ = [some (.ref a), some (.int M), some (.int d), some (.int st), y4, y5, y6]) ⟨Same.refl _, _, _, _, rfl⟩ (fun i σ Hx e => e.1.seq k8) (fun i x t σ Hx hx e nt => ?_) (fun σ Hx e => ?_)
    · obtain ⟨sx, y4, y5, y6, rfl⟩ := e
      obtain ⟨c, _, rfl⟩ := List.mem_map.mp (List.mem_of_getElem? hx)
      have s2 : Same Hx (upd Hx t (.tup [.int ((i : Nat) : Int), .int c])) := same_upd nt
      refine ⟨t, _, rfl, SqT.of upd_same, rfl, _, _, rfl, _, _, rfl, rfl, ?_⟩
      generalize upd Hx t (.tup [.int ((i : Nat) : Int), .int c]) = H9 at s2
      have t9 := sx.trans s2
      refine ⟨.int c, rfl, c, rfl, fun H10 z s10 hz => ?_⟩
      have t10 := t9.trans s10
      clear s10 s2 sx t9
      refine ⟨.int i, rfl, _, _, rfl, rfl, _, rfl, ?_⟩
      show ite _ _ _
      revert z
      refine if_num (fun n hn => ?_) (fun z hz c1 go => ?_)
      · refine ⟨.int n, rfl, .int d, rfl, .int st, rfl, n, d, st, 210, rfl, d1, d2, p1, p2, hn, by decide, fun H11 s11 => ⟨true, rfl, ?_⟩⟩
        have t11 := t10.trans s11
        refine iteF ⟨.int i, rfl, rfl, _, rfl, ?_⟩
        by_cases hi0 : i = 0
        · rw [decide_eq_true (show V.int ((i : Nat) : Int) = V.int 0 by rw [hi0]; rfl)]
          refine iteT ⟨.int n, rfl, .int st, rfl, .int d, rfl, n, st, d, 210, rfl, p1, p2, d1, d2, hn, by decide, fun H12 s12 => ⟨true, rfl, ?_⟩⟩
          refine iteF ?_
          refine ⟨fun m σ H' => ∃ z : Int, m = z.natAbs ∧ z.natAbs < 2 ^ 210 ∧ Same H8 H' ∧ σ = [some (.ref a), some (.int M), some (.int d), some (.int st), some (.int ((i : Nat) : Int)), some (.int c), some (.int z)], ⟨_, n, rfl, hn, t11.trans s12, rfl⟩, fun m σ H' hW => ?_⟩
          obtain ⟨z, rfl, hz, sz, rfl⟩ := hW
          refine ⟨.int i, rfl, _, _, rfl, rfl, _, rfl, ?_⟩
          by_cases h2 : (2 : Int) < (i : Int)
          · rw [decide_eq_true h2]
            refine iteT ⟨_, _, rfl, rfl, _, rfl, ?_⟩
            by_cases h5 : (i : Int) < 5
            · rw [decide_eq_true h5]
              refine iteT ⟨.int z, rfl, 1, rfl, (by show 2 ≤ sizeLine; omega), fun p np => ?_⟩
              have sp := sz.trans (same_upd (o := .tup [.int 0, .int (-1)]) np)
              refine ⟨p, _, rfl, .inr (SqT.of upd_same), rfl, rfl, _, rfl, ?_⟩
              generalize upd H' p (.tup [.int 0, .int (-1)]) = Hq at sp
              have ei : inV (.int z) [.int 0, .int (-1)] = decide (z = 0 ∨ z = -1) := by
                by_cases z0 : z = 0
                · subst z0
                  rfl
                · by_cases z1 : z = -1
                  · subst z1
                    rfl
                  · rw [decide_eq_false (by omega)]
                    have a1 : (0 == z) = false := by simpa using fun e => z0 e.symm
                    have a2 : (-1 == z) = false := by simpa using fun e => z1 e.symm
                    simp [inV, eqV, a1, a2, Ne.symm z0, Ne.symm z1]
              show ite _ _ _
              simp only [if_true]
              rw [ei]
              by_cases hz2 : z = 0 ∨ z = -1
              · rw [decide_eq_true hz2]
                refine iteF ?_
                exact ⟨sp, _, _, _, rfl⟩
              · rw [decide_eq_false hz2]
                refine iteT ⟨fun σ' H'' => Same H8 H'' ∧ σ' = [some (.ref a), some (.int M), some (.int d), some (.int st), some (.int ((i : Nat) : Int)), some (.int c), some (.int (z / 2))], fun σ' H'' hN => ?_, ?_⟩
                · obtain ⟨sN, rfl⟩ := hN
                  exact ⟨(z / 2).natAbs, by omega, z / 2, rfl, half_lt hz, sN, rfl⟩
                · refine ⟨.int z, rfl, _, _, rfl, rfl, ⟨by decide, by decide⟩, ?_⟩
                  exact ⟨.int (z / 2), rfl, .int d, rfl, .int st, rfl, z / 2, d, st, 210, rfl, d1, d2, p1, p2, half_lt hz, by decide, fun H'' s'' => ⟨true, rfl, iteF ⟨sp.trans s'', rfl⟩⟩⟩
            · rw [decide_eq_false h5]
              refine iteF (iteF ?_)
              exact ⟨sz, _, _, _, rfl⟩
          · rw [decide_eq_false h2]
            refine iteF ⟨_, rfl, iteF (iteF ?_)⟩
            exact ⟨sz, _, _, _, rfl⟩
        · rw [decide_eq_false (fun z => hi0 (by have := V.int.inj z; omega))]
          refine iteF (iteF ?_)
          refine ⟨fun m σ H' => ∃ z : Int, m = z.natAbs ∧ z.natAbs < 2 ^ 210 ∧ Same H8 H' ∧ σ = [some (.ref a), some (.int M), some (.int d), some (.int st), some (.int ((i : Nat) : Int)), some (.int c), some (.int z)], ⟨_, n, rfl, hn, t11, rfl⟩, fun m σ H' hW => ?_⟩
          obtain ⟨z, rfl, hz, sz, rfl⟩ := hW
          refine ⟨.int i, rfl, _, _, rfl, rfl, _, rfl, ?_⟩
          by_cases h2 : (2 : Int) < (i : Int)
          · rw [decide_eq_true h2]
            refine iteT ⟨_, _, rfl, rfl, _, rfl, ?_⟩
            by_cases h5 : (i : Int) < 5
            · rw [decide_eq_true h5]
              refine iteT ⟨.int z, rfl, 1, rfl, (by show 2 ≤ sizeLine; omega), fun p np => ?_⟩
              have sp := sz.trans (same_upd (o := .tup [.int 0, .int (-1)]) np)
              refine ⟨p, _, rfl, .inr (SqT.of upd_same), rfl, rfl, _, rfl, ?_⟩
              generalize upd H' p (.tup [.int 0, .int (-1)]) = Hq at sp
              have ei : inV (.int z) [.int 0, .int (-1)] = decide (z = 0 ∨ z = -1) := by
                by_cases z0 : z = 0
                · subst z0
                  rfl
                · by_cases z1 : z = -1
                  · subst z1
                    rfl
                  · rw [decide_eq_false (by omega)]
                    have a1 : (0 == z) = false := by simpa using fun e => z0 e.symm
                    have a2 : (-1 == z) = false := by simpa using fun e => z1 e.symm
                    simp [inV, eqV, a1, a2, Ne.symm z0, Ne.symm z1]
              show ite _ _ _
              simp only [if_true]
              rw [ei]
              by_cases hz2 : z = 0 ∨ z = -1
              · rw [decide_eq_true hz2]
                refine iteF ?_
                exact ⟨sp, _, _, _, rfl⟩
              · rw [decide_eq_false hz2]
                refine iteT ⟨fun σ' H'' => Same H8 H'' ∧ σ' = [some (.ref a), some (.int M), some (.int d), some (.int st), some (.int ((i : Nat) : Int)), some (.int c), some (.int (z / 2))], fun σ' H'' hN => ?_, ?_⟩
                · obtain ⟨sN, rfl⟩ := hN
                  exact ⟨(z / 2).natAbs, by omega, z / 2, rfl, half_lt hz, sN, rfl⟩
                · refine ⟨.int z, rfl, _, _, rfl, rfl, ⟨by decide, by decide⟩, ?_⟩
                  exact ⟨.int (z / 2), rfl, .int d, rfl, .int st, rfl, z / 2, d, st, 210, rfl, d1, d2, p1, p2, half_lt hz, by decide, fun H'' s'' => ⟨true, rfl, iteF ⟨sp.trans s'', rfl⟩⟩⟩
            · rw [decide_eq_false h5]
              refine iteF (iteF ?_)
              exact ⟨sz, _, _, _, rfl⟩
          · rw [decide_eq_false h2]
            refine iteF ⟨_, rfl, iteF (iteF ?_)⟩
            exact ⟨sz, _, _, _, rfl⟩
      · refine ⟨.int z, rfl, z, rfl, _, _, rfl, rfl, (by show (0 : Int) < 1000000007; decide), .int z, rfl, _, _, rfl, rfl, .inr ⟨_, rfl, _, _, rfl, rfl, .inl (by show -(2 ^ 64 : Int) < 2 ∧ (2 : Int) < 2 ^ 64; decide), _, _, rfl, rfl, _, _, rfl, rfl, .inr (sign_small z), ?_⟩⟩
        exact go _ (cut_lt (by decide) (by decide +kernel))
    · exact q _
end
/-! ### what the top has written; the law's own head -/
theorem all_mk {l : PySem.W.OpenLaw} {w : World} {K : PySem.W.Frag} {h : Heap} {mg : Str → Option Value} {fa : Addr} (X : K.In h) (G : h.Ns mainGlobals mg) (hfa : mg "law" = some (.ref fa))
    {f_is_whole : Addr} {od_is_whole an_is_whole : Option Addr} {sl_is_whole : Array (Option Value)} {oc_is_whole kV_is_whole dc_is_whole pm_is_whole cd_is_whole ct_is_whole : Value}
    (a_is_whole : PySem.W.nsIn K mainGlobals "is_whole" = some (some (.ref f_is_whole)))
    (l_is_whole : K.lookup f_is_whole = some ⟨oc_is_whole, od_is_whole, .func (PySem.W.fnOf "is_whole" "is_whole" (defArgs t_is_whole) (defBody t_is_whole) (defScope t_is_whole) .none kV_is_whole dc_is_whole pm_is_whole an_is_whole cd_is_whole ct_is_whole), sl_is_whole⟩)
    (c_is_whole : PySem.W.codeIn K cd_is_whole "is_whole" = true) (k_is_whole : PySem.W.keepIn K (.ref f_is_whole) = true)
    {f_refuse_no_number : Addr} {od_refuse_no_number an_refuse_no_number : Option Addr} {sl_refuse_no_number : Array (Option Value)} {oc_refuse_no_number kV_refuse_no_number dc_refuse_no_number pm_refuse_no_number cd_refuse_no_number ct_refuse_no_number : Value}
    (a_refuse_no_number : PySem.W.nsIn K mainGlobals "refuse_no_number" = some (some (.ref f_refuse_no_number)))
    (l_refuse_no_number : K.lookup f_refuse_no_number = some ⟨oc_refuse_no_number, od_refuse_no_number, .func (PySem.W.fnOf "refuse_no_number" "refuse_no_number" (defArgs t_refuse_no_number) (defBody t_refuse_no_number) (defScope t_refuse_no_number) .none kV_refuse_no_number dc_refuse_no_number pm_refuse_no_number an_refuse_no_number cd_refuse_no_number ct_refuse_no_number), sl_refuse_no_number⟩)
    (c_refuse_no_number : PySem.W.codeIn K cd_refuse_no_number "refuse_no_number" = true) (k_refuse_no_number : PySem.W.keepIn K (.ref f_refuse_no_number) = true)
    {f_lean_parts : Addr} {od_lean_parts an_lean_parts : Option Addr} {sl_lean_parts : Array (Option Value)} {oc_lean_parts kV_lean_parts dc_lean_parts pm_lean_parts cd_lean_parts ct_lean_parts : Value}
    (a_lean_parts : PySem.W.nsIn K mainGlobals "lean_parts" = some (some (.ref f_lean_parts)))
    (l_lean_parts : K.lookup f_lean_parts = some ⟨oc_lean_parts, od_lean_parts, .func (PySem.W.fnOf "lean_parts" "lean_parts" (defArgs t_lean_parts) (defBody t_lean_parts) (defScope t_lean_parts) .none kV_lean_parts dc_lean_parts pm_lean_parts an_lean_parts cd_lean_parts ct_lean_parts), sl_lean_parts⟩)
    (c_lean_parts : PySem.W.codeIn K cd_lean_parts "lean_parts" = true) (k_lean_parts : PySem.W.keepIn K (.ref f_lean_parts) = true)
    {f_led : Addr} {od_led an_led : Option Addr} {sl_led : Array (Option Value)} {oc_led kV_led dc_led pm_led cd_led ct_led : Value}
    (a_led : PySem.W.nsIn K mainGlobals "led" = some (some (.ref f_led)))
    (l_led : K.lookup f_led = some ⟨oc_led, od_led, .func (PySem.W.fnOf "led" "led" (defArgs t_led) (defBody t_led) (defScope t_led) .none kV_led dc_led pm_led an_led cd_led ct_led), sl_led⟩)
    (c_led : PySem.W.codeIn K cd_led "led" = true) (k_led : PySem.W.keepIn K (.ref f_led) = true)
    {f_doubled_between : Addr} {od_doubled_between an_doubled_between : Option Addr} {sl_doubled_between : Array (Option Value)} {oc_doubled_between kV_doubled_between dc_doubled_between pm_doubled_between cd_doubled_between ct_doubled_between : Value}
    (a_doubled_between : PySem.W.nsIn K mainGlobals "doubled_between" = some (some (.ref f_doubled_between)))
    (l_doubled_between : K.lookup f_doubled_between = some ⟨oc_doubled_between, od_doubled_between, .func (PySem.W.fnOf "doubled_between" "doubled_between" (defArgs t_doubled_between) (defBody t_doubled_between) (defScope t_doubled_between) .none kV_doubled_between dc_doubled_between pm_doubled_between an_doubled_between cd_doubled_between ct_doubled_between), sl_doubled_between⟩)
    (c_doubled_between : PySem.W.codeIn K cd_doubled_between "doubled_between" = true) (k_doubled_between : PySem.W.keepIn K (.ref f_doubled_between) = true)
    {f_cost_of : Addr} {od_cost_of an_cost_of : Option Addr} {sl_cost_of : Array (Option Value)} {oc_cost_of kV_cost_of dc_cost_of pm_cost_of cd_cost_of ct_cost_of : Value}
    (a_cost_of : PySem.W.nsIn K mainGlobals "cost_of" = some (some (.ref f_cost_of)))
    (l_cost_of : K.lookup f_cost_of = some ⟨oc_cost_of, od_cost_of, .func (PySem.W.fnOf "cost_of" "cost_of" (defArgs t_cost_of) (defBody t_cost_of) (defScope t_cost_of) .none kV_cost_of dc_cost_of pm_cost_of an_cost_of cd_cost_of ct_cost_of), sl_cost_of⟩)
    (c_cost_of : PySem.W.codeIn K cd_cost_of "cost_of" = true) (k_cost_of : PySem.W.keepIn K (.ref f_cost_of) = true)
    {f_least : Addr} {od_least an_least : Option Addr} {sl_least : Array (Option Value)} {oc_least kV_least dc_least pm_least cd_least ct_least : Value}
    (a_least : PySem.W.nsIn K mainGlobals "least" = some (some (.ref f_least)))
    (l_least : K.lookup f_least = some ⟨oc_least, od_least, .func (PySem.W.fnOf "least" "least" (defArgs t_least) (defBody t_least) (defScope t_least) .none kV_least dc_least pm_least an_least cd_least ct_least), sl_least⟩)
    (c_least : PySem.W.codeIn K cd_least "least" = true) (k_least : PySem.W.keepIn K (.ref f_least) = true)
    {f_begun : Addr} {od_begun an_begun : Option Addr} {sl_begun : Array (Option Value)} {oc_begun kV_begun dc_begun pm_begun cd_begun ct_begun : Value}
    (a_begun : PySem.W.nsIn K mainGlobals "begun" = some (some (.ref f_begun)))
    (l_begun : K.lookup f_begun = some ⟨oc_begun, od_begun, .func (PySem.W.fnOf "begun" "begun" (defArgs t_begun) (defBody t_begun) (defScope t_begun) .none kV_begun dc_begun pm_begun an_begun cd_begun ct_begun), sl_begun⟩)
    (c_begun : PySem.W.codeIn K cd_begun "begun" = true) (k_begun : PySem.W.keepIn K (.ref f_begun) = true)
    {f_digits_of : Addr} {od_digits_of an_digits_of : Option Addr} {sl_digits_of : Array (Option Value)} {oc_digits_of kV_digits_of dc_digits_of pm_digits_of cd_digits_of ct_digits_of : Value}
    (a_digits_of : PySem.W.nsIn K mainGlobals "digits_of" = some (some (.ref f_digits_of)))
    (l_digits_of : K.lookup f_digits_of = some ⟨oc_digits_of, od_digits_of, .func (PySem.W.fnOf "digits_of" "digits_of" (defArgs t_digits_of) (defBody t_digits_of) (defScope t_digits_of) .none kV_digits_of dc_digits_of pm_digits_of an_digits_of cd_digits_of ct_digits_of), sl_digits_of⟩)
    (c_digits_of : PySem.W.codeIn K cd_digits_of "digits_of" = true) (k_digits_of : PySem.W.keepIn K (.ref f_digits_of) = true)
    {f_refuse_no_deeds : Addr} {od_refuse_no_deeds an_refuse_no_deeds : Option Addr} {sl_refuse_no_deeds : Array (Option Value)} {oc_refuse_no_deeds kV_refuse_no_deeds dc_refuse_no_deeds pm_refuse_no_deeds cd_refuse_no_deeds ct_refuse_no_deeds : Value}
    (a_refuse_no_deeds : PySem.W.nsIn K mainGlobals "refuse_no_deeds" = some (some (.ref f_refuse_no_deeds)))
    (l_refuse_no_deeds : K.lookup f_refuse_no_deeds = some ⟨oc_refuse_no_deeds, od_refuse_no_deeds, .func (PySem.W.fnOf "refuse_no_deeds" "refuse_no_deeds" (defArgs t_refuse_no_deeds) (defBody t_refuse_no_deeds) (defScope t_refuse_no_deeds) .none kV_refuse_no_deeds dc_refuse_no_deeds pm_refuse_no_deeds an_refuse_no_deeds cd_refuse_no_deeds ct_refuse_no_deeds), sl_refuse_no_deeds⟩)
    (c_refuse_no_deeds : PySem.W.codeIn K cd_refuse_no_deeds "refuse_no_deeds" = true) (k_refuse_no_deeds : PySem.W.keepIn K (.ref f_refuse_no_deeds) = true)
    {f_refuse_no_cost : Addr} {od_refuse_no_cost an_refuse_no_cost : Option Addr} {sl_refuse_no_cost : Array (Option Value)} {oc_refuse_no_cost kV_refuse_no_cost dc_refuse_no_cost pm_refuse_no_cost cd_refuse_no_cost ct_refuse_no_cost : Value}
    (a_refuse_no_cost : PySem.W.nsIn K mainGlobals "refuse_no_cost" = some (some (.ref f_refuse_no_cost)))
    (l_refuse_no_cost : K.lookup f_refuse_no_cost = some ⟨oc_refuse_no_cost, od_refuse_no_cost, .func (PySem.W.fnOf "refuse_no_cost" "refuse_no_cost" (defArgs t_refuse_no_cost) (defBody t_refuse_no_cost) (defScope t_refuse_no_cost) .none kV_refuse_no_cost dc_refuse_no_cost pm_refuse_no_cost an_refuse_no_cost cd_refuse_no_cost ct_refuse_no_cost), sl_refuse_no_cost⟩)
    (c_refuse_no_cost : PySem.W.codeIn K cd_refuse_no_cost "refuse_no_cost" = true) (k_refuse_no_cost : PySem.W.keepIn K (.ref f_refuse_no_cost) = true)
    {f_Lcell_at : Addr} {od_Lcell_at an_Lcell_at : Option Addr} {sl_Lcell_at : Array (Option Value)} {oc_Lcell_at kV_Lcell_at dc_Lcell_at pm_Lcell_at cd_Lcell_at ct_Lcell_at : Value}
    (a_Lcell_at : PySem.W.nsIn K mainGlobals "_law_cell_at" = some (some (.ref f_Lcell_at)))
    (l_Lcell_at : K.lookup f_Lcell_at = some ⟨oc_Lcell_at, od_Lcell_at, .func (PySem.W.fnOf "_law_cell_at" "_law_cell_at" (defArgs t_Lcell_at) (defBody t_Lcell_at) (defScope t_Lcell_at) .none kV_Lcell_at dc_Lcell_at pm_Lcell_at an_Lcell_at cd_Lcell_at ct_Lcell_at), sl_Lcell_at⟩)
    (c_Lcell_at : PySem.W.codeIn K cd_Lcell_at "_law_cell_at" = true) (k_Lcell_at : PySem.W.keepIn K (.ref f_Lcell_at) = true)
    {f_Lmixed : Addr} {od_Lmixed an_Lmixed : Option Addr} {sl_Lmixed : Array (Option Value)} {oc_Lmixed kV_Lmixed dc_Lmixed pm_Lmixed cd_Lmixed ct_Lmixed : Value}
    (a_Lmixed : PySem.W.nsIn K mainGlobals "_law_mixed" = some (some (.ref f_Lmixed)))
    (l_Lmixed : K.lookup f_Lmixed = some ⟨oc_Lmixed, od_Lmixed, .func (PySem.W.fnOf "_law_mixed" "_law_mixed" (defArgs t_Lmixed) (defBody t_Lmixed) (defScope t_Lmixed) .none kV_Lmixed dc_Lmixed pm_Lmixed an_Lmixed cd_Lmixed ct_Lmixed), sl_Lmixed⟩)
    (c_Lmixed : PySem.W.codeIn K cd_Lmixed "_law_mixed" = true) (k_Lmixed : PySem.W.keepIn K (.ref f_Lmixed) = true)
    {f_Lwhole : Addr} {od_Lwhole an_Lwhole : Option Addr} {sl_Lwhole : Array (Option Value)} {oc_Lwhole kV_Lwhole dc_Lwhole pm_Lwhole cd_Lwhole ct_Lwhole : Value}
    (a_Lwhole : PySem.W.nsIn K mainGlobals "_law_whole" = some (some (.ref f_Lwhole)))
    (l_Lwhole : K.lookup f_Lwhole = some ⟨oc_Lwhole, od_Lwhole, .func (PySem.W.fnOf "_law_whole" "_law_whole" (defArgs t_Lwhole) (defBody t_Lwhole) (defScope t_Lwhole) .none kV_Lwhole dc_Lwhole pm_Lwhole an_Lwhole cd_Lwhole ct_Lwhole), sl_Lwhole⟩)
    (c_Lwhole : PySem.W.codeIn K cd_Lwhole "_law_whole" = true) (k_Lwhole : PySem.W.keepIn K (.ref f_Lwhole) = true)
    {f_Lnumber : Addr} {od_Lnumber an_Lnumber : Option Addr} {sl_Lnumber : Array (Option Value)} {oc_Lnumber kV_Lnumber dc_Lnumber pm_Lnumber cd_Lnumber ct_Lnumber : Value}
    (a_Lnumber : PySem.W.nsIn K mainGlobals "_law_number" = some (some (.ref f_Lnumber)))
    (l_Lnumber : K.lookup f_Lnumber = some ⟨oc_Lnumber, od_Lnumber, .func (PySem.W.fnOf "_law_number" "_law_number" (defArgs t_Lnumber) (defBody t_Lnumber) (defScope t_Lnumber) .none kV_Lnumber dc_Lnumber pm_Lnumber an_Lnumber cd_Lnumber ct_Lnumber), sl_Lnumber⟩)
    (c_Lnumber : PySem.W.codeIn K cd_Lnumber "_law_number" = true) (k_Lnumber : PySem.W.keepIn K (.ref f_Lnumber) = true)
    {f_Ltold : Addr} {od_Ltold an_Ltold : Option Addr} {sl_Ltold : Array (Option Value)} {oc_Ltold kV_Ltold dc_Ltold pm_Ltold cd_Ltold ct_Ltold : Value}
    (a_Ltold : PySem.W.nsIn K mainGlobals "_law_told" = some (some (.ref f_Ltold)))
    (l_Ltold : K.lookup f_Ltold = some ⟨oc_Ltold, od_Ltold, .func (PySem.W.fnOf "_law_told" "_law_told" (defArgs t_Ltold) (defBody t_Ltold) (defScope t_Ltold) .none kV_Ltold dc_Ltold pm_Ltold an_Ltold cd_Ltold ct_Ltold), sl_Ltold⟩)
    (c_Ltold : PySem.W.codeIn K cd_Ltold "_law_told" = true) (k_Ltold : PySem.W.keepIn K (.ref f_Ltold) = true)
    {f_Lgreat : Addr} {od_Lgreat an_Lgreat : Option Addr} {sl_Lgreat : Array (Option Value)} {oc_Lgreat kV_Lgreat dc_Lgreat pm_Lgreat cd_Lgreat ct_Lgreat : Value}
    (a_Lgreat : PySem.W.nsIn K mainGlobals "_law_great" = some (some (.ref f_Lgreat)))
    (l_Lgreat : K.lookup f_Lgreat = some ⟨oc_Lgreat, od_Lgreat, .func (PySem.W.fnOf "_law_great" "_law_great" (defArgs t_Lgreat) (defBody t_Lgreat) (defScope t_Lgreat) .none kV_Lgreat dc_Lgreat pm_Lgreat an_Lgreat cd_Lgreat ct_Lgreat), sl_Lgreat⟩)
    (c_Lgreat : PySem.W.codeIn K cd_Lgreat "_law_great" = true) (k_Lgreat : PySem.W.keepIn K (.ref f_Lgreat) = true)
    {f_Lright : Addr} {od_Lright an_Lright : Option Addr} {sl_Lright : Array (Option Value)} {oc_Lright kV_Lright dc_Lright pm_Lright cd_Lright ct_Lright : Value}
    (a_Lright : PySem.W.nsIn K mainGlobals "_law_right" = some (some (.ref f_Lright)))
    (l_Lright : K.lookup f_Lright = some ⟨oc_Lright, od_Lright, .func (PySem.W.fnOf "_law_right" "_law_right" (defArgs t_Lright) (defBody t_Lright) (defScope t_Lright) .none kV_Lright dc_Lright pm_Lright an_Lright cd_Lright ct_Lright), sl_Lright⟩)
    (c_Lright : PySem.W.codeIn K cd_Lright "_law_right" = true) (k_Lright : PySem.W.keepIn K (.ref f_Lright) = true)
    {f_law : Addr} {od_law an_law : Option Addr} {sl_law : Array (Option Value)} {oc_law kV_law dc_law pm_law cd_law ct_law : Value}
    (a_law : PySem.W.nsIn K mainGlobals "law" = some (some (.ref f_law)))
    (l_law : K.lookup f_law = some ⟨oc_law, od_law, .func (PySem.W.fnOf "law" "law" (defArgs t_law) (defBody t_law) (defScope t_law) .none kV_law dc_law pm_law an_law cd_law ct_law), sl_law⟩)
    (c_law : PySem.W.codeIn K cd_law "law" = true) (k_law : PySem.W.keepIn K (.ref f_law) = true)
    {t_MOST_COST : Tok} (gl_MOST_COST : PySem.W.nsIn K mainGlobals "MOST_COST" = some (some (.int 50 t_MOST_COST)))
    (z_isinstance : PySem.W.nsIn K mainGlobals "isinstance" = some none)
    (z_int : PySem.W.nsIn K mainGlobals "int" = some none)
    (z_bool : PySem.W.nsIn K mainGlobals "bool" = some none)
    (z_len : PySem.W.nsIn K mainGlobals "len" = some none)
    (z_zip : PySem.W.nsIn K mainGlobals "zip" = some none)
    (z_abs : PySem.W.nsIn K mainGlobals "abs" = some none)
    (z_str : PySem.W.nsIn K mainGlobals "str" = some none)
    (z_all : PySem.W.nsIn K mainGlobals "all" = some none)
    (z_range : PySem.W.nsIn K mainGlobals "range" = some none)
    (z_tuple : PySem.W.nsIn K mainGlobals "tuple" = some none)
    (z_enumerate : PySem.W.nsIn K mainGlobals "enumerate" = some none)
    {C_LeanError : Addr} (x_LeanError : PySem.W.nsIn K mainGlobals "LeanError" = some (some (.ref C_LeanError)))
    {C_NoNumber : Addr} (x_NoNumber : PySem.W.nsIn K mainGlobals "NoNumber" = some (some (.ref C_NoNumber)))
    {C_NoDeeds : Addr} (x_NoDeeds : PySem.W.nsIn K mainGlobals "NoDeeds" = some (some (.ref C_NoDeeds)))
    {C_NoCost : Addr} (x_NoCost : PySem.W.nsIn K mainGlobals "NoCost" = some (some (.ref C_NoCost)))
    (xe_LeanError : PySem.W.excIn K C_LeanError [.type "ValueError", .type "Exception", .type "BaseException", .type "object"] "ValueError.__new__" = true)
    (kpe_LeanError : PySem.W.keepIn K (.ref C_LeanError) = true)
    (bse_LeanError : PySem.W.subIn K (.ref C_LeanError) (.type "BaseException") = some true)
    (vee_LeanError : PySem.W.subIn K (.ref C_LeanError) (.type "ValueError") = some true)
    (tye_LeanError : PySem.W.typeIn K (.ref C_LeanError) = some (.type "type"))
    (ice_LeanError : PySem.W.isClsIn K C_LeanError = true)
    (gae_LeanError : PySem.W.findIn K (.ref C_LeanError) "__getattribute__" = some (some (.builtin "BaseException.__getattribute__")))
    (gte_LeanError : PySem.W.findIn K (.ref C_LeanError) "__getattr__" = some none)
    (gke_LeanError : PySem.W.findIn K (.ref C_LeanError) "__class__" = some (some (.builtin "object.__class__")))
    (hde_LeanError : PySem.W.hasDictIn K C_LeanError = true)
    (moe_LeanError : PySem.W.mroIn K C_LeanError (.type "object") = some true)
    (sue_LeanError_LeanError : PySem.W.subIn K (.ref C_LeanError) (.ref C_LeanError) = some true)
    (sue_LeanError_NoNumber : PySem.W.subIn K (.ref C_LeanError) (.ref C_NoNumber) = some false)
    (sue_LeanError_NoDeeds : PySem.W.subIn K (.ref C_LeanError) (.ref C_NoDeeds) = some false)
    (sue_LeanError_NoCost : PySem.W.subIn K (.ref C_LeanError) (.ref C_NoCost) = some false)
    (xe_NoNumber : PySem.W.excIn K C_NoNumber [.type "ValueError", .type "Exception", .type "BaseException", .type "object"] "ValueError.__new__" = true)
    (kpe_NoNumber : PySem.W.keepIn K (.ref C_NoNumber) = true)
    (bse_NoNumber : PySem.W.subIn K (.ref C_NoNumber) (.type "BaseException") = some true)
    (vee_NoNumber : PySem.W.subIn K (.ref C_NoNumber) (.type "ValueError") = some true)
    (tye_NoNumber : PySem.W.typeIn K (.ref C_NoNumber) = some (.type "type"))
    (ice_NoNumber : PySem.W.isClsIn K C_NoNumber = true)
    (gae_NoNumber : PySem.W.findIn K (.ref C_NoNumber) "__getattribute__" = some (some (.builtin "BaseException.__getattribute__")))
    (gte_NoNumber : PySem.W.findIn K (.ref C_NoNumber) "__getattr__" = some none)
    (gke_NoNumber : PySem.W.findIn K (.ref C_NoNumber) "__class__" = some (some (.builtin "object.__class__")))
    (hde_NoNumber : PySem.W.hasDictIn K C_NoNumber = true)
    (moe_NoNumber : PySem.W.mroIn K C_NoNumber (.type "object") = some true)
    (sue_NoNumber_LeanError : PySem.W.subIn K (.ref C_NoNumber) (.ref C_LeanError) = some true)
    (sue_NoNumber_NoNumber : PySem.W.subIn K (.ref C_NoNumber) (.ref C_NoNumber) = some true)
    (sue_NoNumber_NoDeeds : PySem.W.subIn K (.ref C_NoNumber) (.ref C_NoDeeds) = some false)
    (sue_NoNumber_NoCost : PySem.W.subIn K (.ref C_NoNumber) (.ref C_NoCost) = some false)
    (xe_NoDeeds : PySem.W.excIn K C_NoDeeds [.type "ValueError", .type "Exception", .type "BaseException", .type "object"] "ValueError.__new__" = true)
    (kpe_NoDeeds : PySem.W.keepIn K (.ref C_NoDeeds) = true)
    (bse_NoDeeds : PySem.W.subIn K (.ref C_NoDeeds) (.type "BaseException") = some true)
    (vee_NoDeeds : PySem.W.subIn K (.ref C_NoDeeds) (.type "ValueError") = some true)
    (tye_NoDeeds : PySem.W.typeIn K (.ref C_NoDeeds) = some (.type "type"))
    (ice_NoDeeds : PySem.W.isClsIn K C_NoDeeds = true)
    (gae_NoDeeds : PySem.W.findIn K (.ref C_NoDeeds) "__getattribute__" = some (some (.builtin "BaseException.__getattribute__")))
    (gte_NoDeeds : PySem.W.findIn K (.ref C_NoDeeds) "__getattr__" = some none)
    (gke_NoDeeds : PySem.W.findIn K (.ref C_NoDeeds) "__class__" = some (some (.builtin "object.__class__")))
    (hde_NoDeeds : PySem.W.hasDictIn K C_NoDeeds = true)
    (moe_NoDeeds : PySem.W.mroIn K C_NoDeeds (.type "object") = some true)
    (sue_NoDeeds_LeanError : PySem.W.subIn K (.ref C_NoDeeds) (.ref C_LeanError) = some true)
    (sue_NoDeeds_NoNumber : PySem.W.subIn K (.ref C_NoDeeds) (.ref C_NoNumber) = some false)
    (sue_NoDeeds_NoDeeds : PySem.W.subIn K (.ref C_NoDeeds) (.ref C_NoDeeds) = some true)
    (sue_NoDeeds_NoCost : PySem.W.subIn K (.ref C_NoDeeds) (.ref C_NoCost) = some false)
    (xe_NoCost : PySem.W.excIn K C_NoCost [.type "ValueError", .type "Exception", .type "BaseException", .type "object"] "ValueError.__new__" = true)
    (kpe_NoCost : PySem.W.keepIn K (.ref C_NoCost) = true)
    (bse_NoCost : PySem.W.subIn K (.ref C_NoCost) (.type "BaseException") = some true)
    (vee_NoCost : PySem.W.subIn K (.ref C_NoCost) (.type "ValueError") = some true)
    (tye_NoCost : PySem.W.typeIn K (.ref C_NoCost) = some (.type "type"))
    (ice_NoCost : PySem.W.isClsIn K C_NoCost = true)
    (gae_NoCost : PySem.W.findIn K (.ref C_NoCost) "__getattribute__" = some (some (.builtin "BaseException.__getattribute__")))
    (gte_NoCost : PySem.W.findIn K (.ref C_NoCost) "__getattr__" = some none)
    (gke_NoCost : PySem.W.findIn K (.ref C_NoCost) "__class__" = some (some (.builtin "object.__class__")))
    (hde_NoCost : PySem.W.hasDictIn K C_NoCost = true)
    (moe_NoCost : PySem.W.mroIn K C_NoCost (.type "object") = some true)
    (sue_NoCost_LeanError : PySem.W.subIn K (.ref C_NoCost) (.ref C_LeanError) = some true)
    (sue_NoCost_NoNumber : PySem.W.subIn K (.ref C_NoCost) (.ref C_NoNumber) = some false)
    (sue_NoCost_NoDeeds : PySem.W.subIn K (.ref C_NoCost) (.ref C_NoDeeds) = some false)
    (sue_NoCost_NoCost : PySem.W.subIn K (.ref C_NoCost) (.ref C_NoCost) = some true)
    (spe_class : PySem.W.specialIn K (.builtin "object.__class__") "__get__" = some (some (.builtin "getset_descriptor.__get__")))
    (tke_class : PySem.W.takesIn K (.builtin "object.__class__") = some true)
    (dg : PySem.W.nsIn K cStatics "sys.int_max_str_digits" = some none) :
    ∃ fd : FuncData, (∀ (s : Shared) (v : Value), BindsTo s fd ⟨[v], []⟩ [("_law_script", v)]) ∧ ∀ base : Heap, K.In base → base.Ns mainGlobals mg → FnOk l.prog w K mg base CX0 9 fa fd p_law (sp_law K) := by
  have e := hfa.symm.trans (PySem.W.mg_of X G a_law)
  cases e
  have F_is_whole := fun_mk (st := t_is_whole) l_is_whole c_is_whole k_is_whole
  have b_is_whole := F_is_whole.binds (ps := p_is_whole) fun _ _ _ _ _ _ us hl => match us, hl with | [_], _ => rfl
  have F_refuse_no_number := fun_mk (st := t_refuse_no_number) l_refuse_no_number c_refuse_no_number k_refuse_no_number
  have b_refuse_no_number := F_refuse_no_number.binds (ps := p_refuse_no_number) fun _ _ _ _ _ _ us hl => match us, hl with | [_], _ => rfl
  have F_lean_parts := fun_mk (st := t_lean_parts) l_lean_parts c_lean_parts k_lean_parts
  have b_lean_parts := F_lean_parts.binds (ps := p_lean_parts) fun _ _ _ _ _ _ us hl => match us, hl with | [_], _ => rfl
  have F_led := fun_mk (st := t_led) l_led c_led k_led
  have b_led := F_led.binds (ps := p_led) fun _ _ _ _ _ _ us hl => match us, hl with | [_], _ => rfl
  have F_doubled_between := fun_mk (st := t_doubled_between) l_doubled_between c_doubled_between k_doubled_between
  have b_doubled_between := F_doubled_between.binds (ps := p_doubled_between) fun _ _ _ _ _ _ us hl => match us, hl with | [_], _ => rfl
  have F_cost_of := fun_mk (st := t_cost_of) l_cost_of c_cost_of k_cost_of
  have b_cost_of := F_cost_of.binds (ps := p_cost_of) fun _ _ _ _ _ _ us hl => match us, hl with | [_, _, _], _ => rfl
  have F_least := fun_mk (st := t_least) l_least c_least k_least
  have b_least := F_least.binds (ps := p_least) fun _ _ _ _ _ _ us hl => match us, hl with | [_, _, _], _ => rfl
  have F_begun := fun_mk (st := t_begun) l_begun c_begun k_begun
  have b_begun := F_begun.binds (ps := p_begun) fun _ _ _ _ _ _ us hl => match us, hl with | [_, _], _ => rfl
  have F_digits_of := fun_mk (st := t_digits_of) l_digits_of c_digits_of k_digits_of
  have b_digits_of := F_digits_of.binds (ps := p_digits_of) fun _ _ _ _ _ _ us hl => match us, hl with | [_, _], _ => rfl
  have F_refuse_no_deeds := fun_mk (st := t_refuse_no_deeds) l_refuse_no_deeds c_refuse_no_deeds k_refuse_no_deeds
  have b_refuse_no_deeds := F_refuse_no_deeds.binds (ps := p_refuse_no_deeds) fun _ _ _ _ _ _ us hl => match us, hl with | [_], _ => rfl
  have F_refuse_no_cost := fun_mk (st := t_refuse_no_cost) l_refuse_no_cost c_refuse_no_cost k_refuse_no_cost
  have b_refuse_no_cost := F_refuse_no_cost.binds (ps := p_refuse_no_cost) fun _ _ _ _ _ _ us hl => match us, hl with | [_], _ => rfl
  have F_Lcell_at := fun_mk (st := t_Lcell_at) l_Lcell_at c_Lcell_at k_Lcell_at
  have b_Lcell_at := F_Lcell_at.binds (ps := p_Lcell_at) fun _ _ _ _ _ _ us hl => match us, hl with | [_, _], _ => rfl
  have F_Lmixed := fun_mk (st := t_Lmixed) l_Lmixed c_Lmixed k_Lmixed
  have b_Lmixed := F_Lmixed.binds (ps := p_Lmixed) fun _ _ _ _ _ _ us hl => match us, hl with | [_, _], _ => rfl
  have F_Lwhole := fun_mk (st := t_Lwhole) l_Lwhole c_Lwhole k_Lwhole
  have b_Lwhole := F_Lwhole.binds (ps := p_Lwhole) fun _ _ _ _ _ _ us hl => match us, hl with | [_], _ => rfl
  have F_Lnumber := fun_mk (st := t_Lnumber) l_Lnumber c_Lnumber k_Lnumber
  have b_Lnumber := F_Lnumber.binds (ps := p_Lnumber) fun _ _ _ _ _ _ us hl => match us, hl with | [_], _ => rfl
  have F_Ltold := fun_mk (st := t_Ltold) l_Ltold c_Ltold k_Ltold
  have b_Ltold := F_Ltold.binds (ps := p_Ltold) fun _ _ _ _ _ _ us hl => match us, hl with | [_, _, _], _ => rfl
  have F_Lgreat := fun_mk (st := t_Lgreat) l_Lgreat c_Lgreat k_Lgreat
  have b_Lgreat := F_Lgreat.binds (ps := p_Lgreat) fun _ _ _ _ _ _ us hl => match us, hl with | [_], _ => rfl
  have F_Lright := fun_mk (st := t_Lright) l_Lright c_Lright k_Lright
  have b_Lright := F_Lright.binds (ps := p_Lright) fun _ _ _ _ _ _ us hl => match us, hl with | [_, _, _], _ => rfl
  have F_law := fun_mk (st := t_law) l_law c_law k_law
  have b_law := F_law.binds (ps := p_law) fun _ _ _ _ _ _ us hl => match us, hl with | [_], _ => rfl
  have T : Txt K mg := {
    a_is_whole := _, d_is_whole := _, F_is_whole := F_is_whole, b_is_whole := b_is_whole, g_is_whole := PySem.W.mg_of X G a_is_whole,
    a_refuse_no_number := _, d_refuse_no_number := _, F_refuse_no_number := F_refuse_no_number, b_refuse_no_number := b_refuse_no_number, g_refuse_no_number := PySem.W.mg_of X G a_refuse_no_number,
    a_lean_parts := _, d_lean_parts := _, F_lean_parts := F_lean_parts, b_lean_parts := b_lean_parts, g_lean_parts := PySem.W.mg_of X G a_lean_parts,
    a_led := _, d_led := _, F_led := F_led, b_led := b_led, g_led := PySem.W.mg_of X G a_led,
    a_doubled_between := _, d_doubled_between := _, F_doubled_between := F_doubled_between, b_doubled_between := b_doubled_between, g_doubled_between := PySem.W.mg_of X G a_doubled_between,
    a_cost_of := _, d_cost_of := _, F_cost_of := F_cost_of, b_cost_of := b_cost_of, g_cost_of := PySem.W.mg_of X G a_cost_of,
    a_least := _, d_least := _, F_least := F_least, b_least := b_least, g_least := PySem.W.mg_of X G a_least,
    a_begun := _, d_begun := _, F_begun := F_begun, b_begun := b_begun, g_begun := PySem.W.mg_of X G a_begun,
    a_digits_of := _, d_digits_of := _, F_digits_of := F_digits_of, b_digits_of := b_digits_of, g_digits_of := PySem.W.mg_of X G a_digits_of,
    a_refuse_no_deeds := _, d_refuse_no_deeds := _, F_refuse_no_deeds := F_refuse_no_deeds, b_refuse_no_deeds := b_refuse_no_deeds, g_refuse_no_deeds := PySem.W.mg_of X G a_refuse_no_deeds,
    a_refuse_no_cost := _, d_refuse_no_cost := _, F_refuse_no_cost := F_refuse_no_cost, b_refuse_no_cost := b_refuse_no_cost, g_refuse_no_cost := PySem.W.mg_of X G a_refuse_no_cost,
    a_Lcell_at := _, d_Lcell_at := _, F_Lcell_at := F_Lcell_at, b_Lcell_at := b_Lcell_at, g_Lcell_at := PySem.W.mg_of X G a_Lcell_at,
    a_Lmixed := _, d_Lmixed := _, F_Lmixed := F_Lmixed, b_Lmixed := b_Lmixed, g_Lmixed := PySem.W.mg_of X G a_Lmixed,
    a_Lwhole := _, d_Lwhole := _, F_Lwhole := F_Lwhole, b_Lwhole := b_Lwhole, g_Lwhole := PySem.W.mg_of X G a_Lwhole,
    a_Lnumber := _, d_Lnumber := _, F_Lnumber := F_Lnumber, b_Lnumber := b_Lnumber, g_Lnumber := PySem.W.mg_of X G a_Lnumber,
    a_Ltold := _, d_Ltold := _, F_Ltold := F_Ltold, b_Ltold := b_Ltold, g_Ltold := PySem.W.mg_of X G a_Ltold,
    a_Lgreat := _, d_Lgreat := _, F_Lgreat := F_Lgreat, b_Lgreat := b_Lgreat, g_Lgreat := PySem.W.mg_of X G a_Lgreat,
    a_Lright := _, d_Lright := _, F_Lright := F_Lright, b_Lright := b_Lright, g_Lright := PySem.W.mg_of X G a_Lright,
    a_law := _, d_law := _, F_law := F_law, b_law := b_law, g_law := PySem.W.mg_of X G a_law,
    gl_MOST_COST := ⟨_, PySem.W.mg_of X G gl_MOST_COST⟩,
    z_isinstance := PySem.W.mg_none_of X G z_isinstance,
    z_int := PySem.W.mg_none_of X G z_int,
    z_bool := PySem.W.mg_none_of X G z_bool,
    z_len := PySem.W.mg_none_of X G z_len,
    z_zip := PySem.W.mg_none_of X G z_zip,
    z_abs := PySem.W.mg_none_of X G z_abs,
    z_str := PySem.W.mg_none_of X G z_str,
    z_all := PySem.W.mg_none_of X G z_all,
    z_range := PySem.W.mg_none_of X G z_range,
    z_tuple := PySem.W.mg_none_of X G z_tuple,
    z_enumerate := PySem.W.mg_none_of X G z_enumerate,
    c_LeanError := _, gc_LeanError := PySem.W.mg_of X G x_LeanError,
    c_NoNumber := _, gc_NoNumber := PySem.W.mg_of X G x_NoNumber,
    c_NoDeeds := _, gc_NoDeeds := PySem.W.mg_of X G x_NoDeeds,
    c_NoCost := _, gc_NoCost := PySem.W.mg_of X G x_NoCost,
    x_LeanError := xe_LeanError,
    kp_LeanError := kpe_LeanError,
    bs_LeanError := bse_LeanError,
    ve_LeanError := vee_LeanError,
    ty_LeanError := tye_LeanError,
    ic_LeanError := ice_LeanError,
    ga_LeanError := gae_LeanError,
    gt_LeanError := gte_LeanError,
    gk_LeanError := gke_LeanError,
    hd_LeanError := hde_LeanError,
    mo_LeanError := moe_LeanError,
    su_LeanError_LeanError := sue_LeanError_LeanError,
    su_LeanError_NoNumber := sue_LeanError_NoNumber,
    su_LeanError_NoDeeds := sue_LeanError_NoDeeds,
    su_LeanError_NoCost := sue_LeanError_NoCost,
    x_NoNumber := xe_NoNumber,
    kp_NoNumber := kpe_NoNumber,
    bs_NoNumber := bse_NoNumber,
    ve_NoNumber := vee_NoNumber,
    ty_NoNumber := tye_NoNumber,
    ic_NoNumber := ice_NoNumber,
    ga_NoNumber := gae_NoNumber,
    gt_NoNumber := gte_NoNumber,
    gk_NoNumber := gke_NoNumber,
    hd_NoNumber := hde_NoNumber,
    mo_NoNumber := moe_NoNumber,
    su_NoNumber_LeanError := sue_NoNumber_LeanError,
    su_NoNumber_NoNumber := sue_NoNumber_NoNumber,
    su_NoNumber_NoDeeds := sue_NoNumber_NoDeeds,
    su_NoNumber_NoCost := sue_NoNumber_NoCost,
    x_NoDeeds := xe_NoDeeds,
    kp_NoDeeds := kpe_NoDeeds,
    bs_NoDeeds := bse_NoDeeds,
    ve_NoDeeds := vee_NoDeeds,
    ty_NoDeeds := tye_NoDeeds,
    ic_NoDeeds := ice_NoDeeds,
    ga_NoDeeds := gae_NoDeeds,
    gt_NoDeeds := gte_NoDeeds,
    gk_NoDeeds := gke_NoDeeds,
    hd_NoDeeds := hde_NoDeeds,
    mo_NoDeeds := moe_NoDeeds,
    su_NoDeeds_LeanError := sue_NoDeeds_LeanError,
    su_NoDeeds_NoNumber := sue_NoDeeds_NoNumber,
    su_NoDeeds_NoDeeds := sue_NoDeeds_NoDeeds,
    su_NoDeeds_NoCost := sue_NoDeeds_NoCost,
    x_NoCost := xe_NoCost,
    kp_NoCost := kpe_NoCost,
    bs_NoCost := bse_NoCost,
    ve_NoCost := vee_NoCost,
    ty_NoCost := tye_NoCost,
    ic_NoCost := ice_NoCost,
    ga_NoCost := gae_NoCost,
    gt_NoCost := gte_NoCost,
    gk_NoCost := gke_NoCost,
    hd_NoCost := hde_NoCost,
    mo_NoCost := moe_NoCost,
    su_NoCost_LeanError := sue_NoCost_LeanError,
    su_NoCost_NoNumber := sue_NoCost_NoNumber,
    su_NoCost_NoDeeds := sue_NoCost_NoDeeds,
    su_NoCost_NoCost := sue_NoCost_NoCost,
    sp_class := spe_class,
    tk_class := tke_class,
    digits := dg }
  exact ⟨_, fun s v => .of_eq rfl, fun base _ _ => ok_law_at T F_law b_law⟩
end K10
open PySem PySem.W PyProof.Rows
set_option maxHeartbeats 0 in
theorem PySem.Challenge.cw_leanfigures_k10_whole_least_deeds_holds : PySem.Challenge.rw_leanfigures_k10_whole_least_deeds.Holds := by
  w_on; o_law; k_head; (case hw => w_witness2)
  k_fill
  refine L2.walk_of (l := PySem.Challenge.rw_leanfigures_k10_whole_least_deeds) (n := 63) (k := 9) (x := "_law_script") (CX := fun _ => L2.CX0) (sp := fun w => K10.sp_law _) rfl (by decide) rfl ⟨rfl, by decide, by decide⟩ (fun w h Y => PySem.W.kIn_of Y) ?F (fun _ _ a ns hl _ hS => ⟨a, ns, rfl, hS, hl, fun _ => rfl⟩) (fun _ _ _ _ _ h => h)
  case F =>
    intro w mg fa h KX G hmg
    refine' K10.all_mk KX G hmg ?a_is_whole ?l_is_whole ?c_is_whole ?k_is_whole ?a_refuse_no_number ?l_refuse_no_number ?c_refuse_no_number ?k_refuse_no_number ?a_lean_parts ?l_lean_parts ?c_lean_parts ?k_lean_parts ?a_led ?l_led ?c_led ?k_led ?a_doubled_between ?l_doubled_between ?c_doubled_between ?k_doubled_between ?a_cost_of ?l_cost_of ?c_cost_of ?k_cost_of ?a_least ?l_least ?c_least ?k_least ?a_begun ?l_begun ?c_begun ?k_begun ?a_digits_of ?l_digits_of ?c_digits_of ?k_digits_of ?a_refuse_no_deeds ?l_refuse_no_deeds ?c_refuse_no_deeds ?k_refuse_no_deeds ?a_refuse_no_cost ?l_refuse_no_cost ?c_refuse_no_cost ?k_refuse_no_cost ?a_Lcell_at ?l_Lcell_at ?c_Lcell_at ?k_Lcell_at ?a_Lmixed ?l_Lmixed ?c_Lmixed ?k_Lmixed ?a_Lwhole ?l_Lwhole ?c_Lwhole ?k_Lwhole ?a_Lnumber ?l_Lnumber ?c_Lnumber ?k_Lnumber ?a_Ltold ?l_Ltold ?c_Ltold ?k_Ltold ?a_Lgreat ?l_Lgreat ?c_Lgreat ?k_Lgreat ?a_Lright ?l_Lright ?c_Lright ?k_Lright ?a_law ?l_law ?c_law ?k_law ?gl_MOST_COST ?z_isinstance ?z_int ?z_bool ?z_len ?z_zip ?z_abs ?z_str ?z_all ?z_range ?z_tuple ?z_enumerate ?x_LeanError ?x_NoNumber ?x_NoDeeds ?x_NoCost ?xe_LeanError ?kpe_LeanError ?bse_LeanError ?vee_LeanError ?tye_LeanError ?ice_LeanError ?gae_LeanError ?gte_LeanError ?gke_LeanError ?hde_LeanError ?moe_LeanError ?sue_LeanError_LeanError ?sue_LeanError_NoNumber ?sue_LeanError_NoDeeds ?sue_LeanError_NoCost ?xe_NoNumber ?kpe_NoNumber ?bse_NoNumber ?vee_NoNumber ?tye_NoNumber ?ice_NoNumber ?gae_NoNumber ?gte_NoNumber ?gke_NoNumber ?hde_NoNumber ?moe_NoNumber ?sue_NoNumber_LeanError ?sue_NoNumber_NoNumber ?sue_NoNumber_NoDeeds ?sue_NoNumber_NoCost ?xe_NoDeeds ?kpe_NoDeeds ?bse_NoDeeds ?vee_NoDeeds ?tye_NoDeeds ?ice_NoDeeds ?gae_NoDeeds ?gte_NoDeeds ?gke_NoDeeds ?hde_NoDeeds ?moe_NoDeeds ?sue_NoDeeds_LeanError ?sue_NoDeeds_NoNumber ?sue_NoDeeds_NoDeeds ?sue_NoDeeds_NoCost ?xe_NoCost ?kpe_NoCost ?bse_NoCost ?vee_NoCost ?tye_NoCost ?ice_NoCost ?gae_NoCost ?gte_NoCost ?gke_NoCost ?hde_NoCost ?moe_NoCost ?sue_NoCost_LeanError ?sue_NoCost_NoNumber ?sue_NoCost_NoDeeds ?sue_NoCost_NoCost ?spe_class ?tke_class ?dg
    (case a_is_whole => k_is)
    (case l_is_whole => k_is)
    (case c_is_whole => k_is)
    (case k_is_whole => k_is)
    (case a_refuse_no_number => k_is)
    (case l_refuse_no_number => k_is)
    (case c_refuse_no_number => k_is)
    (case k_refuse_no_number => k_is)
    (case a_lean_parts => k_is)
    (case l_lean_parts => k_is)
    (case c_lean_parts => k_is)
    (case k_lean_parts => k_is)
    (case a_led => k_is)
    (case l_led => k_is)
    (case c_led => k_is)
    (case k_led => k_is)
    (case a_doubled_between => k_is)
    (case l_doubled_between => k_is)
    (case c_doubled_between => k_is)
    (case k_doubled_between => k_is)
    (case a_cost_of => k_is)
    (case l_cost_of => k_is)
    (case c_cost_of => k_is)
    (case k_cost_of => k_is)
    (case a_least => k_is)
    (case l_least => k_is)
    (case c_least => k_is)
    (case k_least => k_is)
    (case a_begun => k_is)
    (case l_begun => k_is)
    (case c_begun => k_is)
    (case k_begun => k_is)
    (case a_digits_of => k_is)
    (case l_digits_of => k_is)
    (case c_digits_of => k_is)
    (case k_digits_of => k_is)
    (case a_refuse_no_deeds => k_is)
    (case l_refuse_no_deeds => k_is)
    (case c_refuse_no_deeds => k_is)
    (case k_refuse_no_deeds => k_is)
    (case a_refuse_no_cost => k_is)
    (case l_refuse_no_cost => k_is)
    (case c_refuse_no_cost => k_is)
    (case k_refuse_no_cost => k_is)
    (case a_Lcell_at => k_is)
    (case l_Lcell_at => k_is)
    (case c_Lcell_at => k_is)
    (case k_Lcell_at => k_is)
    (case a_Lmixed => k_is)
    (case l_Lmixed => k_is)
    (case c_Lmixed => k_is)
    (case k_Lmixed => k_is)
    (case a_Lwhole => k_is)
    (case l_Lwhole => k_is)
    (case c_Lwhole => k_is)
    (case k_Lwhole => k_is)
    (case a_Lnumber => k_is)
    (case l_Lnumber => k_is)
    (case c_Lnumber => k_is)
    (case k_Lnumber => k_is)
    (case a_Ltold => k_is)
    (case l_Ltold => k_is)
    (case c_Ltold => k_is)
    (case k_Ltold => k_is)
    (case a_Lgreat => k_is)
    (case l_Lgreat => k_is)
    (case c_Lgreat => k_is)
    (case k_Lgreat => k_is)
    (case a_Lright => k_is)
    (case l_Lright => k_is)
    (case c_Lright => k_is)
    (case k_Lright => k_is)
    (case a_law => k_is)
    (case l_law => k_is)
    (case c_law => k_is)
    (case k_law => k_is)
    (case gl_MOST_COST => k_is)
    (case z_isinstance => k_is)
    (case z_int => k_is)
    (case z_bool => k_is)
    (case z_len => k_is)
    (case z_zip => k_is)
    (case z_abs => k_is)
    (case z_str => k_is)
    (case z_all => k_is)
    (case z_range => k_is)
    (case z_tuple => k_is)
    (case z_enumerate => k_is)
    (case x_LeanError => k_is)
    (case x_NoNumber => k_is)
    (case x_NoDeeds => k_is)
    (case x_NoCost => k_is)
    (case xe_LeanError => k_exc)
    (case kpe_LeanError => k_is)
    (case bse_LeanError => k_is)
    (case vee_LeanError => k_is)
    (case tye_LeanError => k_is)
    (case ice_LeanError => k_is)
    (case gae_LeanError => k_is)
    (case gte_LeanError => k_is)
    (case gke_LeanError => k_is)
    (case hde_LeanError => k_is)
    (case moe_LeanError => k_is)
    (case sue_LeanError_LeanError => k_is)
    (case sue_LeanError_NoNumber => k_is)
    (case sue_LeanError_NoDeeds => k_is)
    (case sue_LeanError_NoCost => k_is)
    (case xe_NoNumber => k_exc)
    (case kpe_NoNumber => k_is)
    (case bse_NoNumber => k_is)
    (case vee_NoNumber => k_is)
    (case tye_NoNumber => k_is)
    (case ice_NoNumber => k_is)
    (case gae_NoNumber => k_is)
    (case gte_NoNumber => k_is)
    (case gke_NoNumber => k_is)
    (case hde_NoNumber => k_is)
    (case moe_NoNumber => k_is)
    (case sue_NoNumber_LeanError => k_is)
    (case sue_NoNumber_NoNumber => k_is)
    (case sue_NoNumber_NoDeeds => k_is)
    (case sue_NoNumber_NoCost => k_is)
    (case xe_NoDeeds => k_exc)
    (case kpe_NoDeeds => k_is)
    (case bse_NoDeeds => k_is)
    (case vee_NoDeeds => k_is)
    (case tye_NoDeeds => k_is)
    (case ice_NoDeeds => k_is)
    (case gae_NoDeeds => k_is)
    (case gte_NoDeeds => k_is)
    (case gke_NoDeeds => k_is)
    (case hde_NoDeeds => k_is)
    (case moe_NoDeeds => k_is)
    (case sue_NoDeeds_LeanError => k_is)
    (case sue_NoDeeds_NoNumber => k_is)
    (case sue_NoDeeds_NoDeeds => k_is)
    (case sue_NoDeeds_NoCost => k_is)
    (case xe_NoCost => k_exc)
    (case kpe_NoCost => k_is)
    (case bse_NoCost => k_is)
    (case vee_NoCost => k_is)
    (case tye_NoCost => k_is)
    (case ice_NoCost => k_is)
    (case gae_NoCost => k_is)
    (case gte_NoCost => k_is)
    (case gke_NoCost => k_is)
    (case hde_NoCost => k_is)
    (case moe_NoCost => k_is)
    (case sue_NoCost_LeanError => k_is)
    (case sue_NoCost_NoNumber => k_is)
    (case sue_NoCost_NoDeeds => k_is)
    (case sue_NoCost_NoCost => k_is)
    (case spe_class => k_is)
    (case tke_class => k_is)
    (case dg => k_is)
