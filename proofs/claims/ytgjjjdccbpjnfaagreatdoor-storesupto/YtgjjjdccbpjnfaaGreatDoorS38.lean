import Derived.Test.YtgjjjdccbpjnfaaGreatDoorS34
import Derived.Test.YtgjjjdccbpjnfaaGreatDoorS35
import Derived.Test.YtgjjjdccbpjnfaaGreatDoorS36
import Derived.Test.YtgjjjdccbpjnfaaGreatDoorS37
import Derived.Deep.LoopGhost
import Derived.Test.YtgjjjdccbpjnfaaGreatDoorS27
import Derived.Deep.RegionLaw
import Derived.Test.YtgjjjdccbpjnfaaGreatDoorS15
import Derived.Deep.SlicePairs
import Derived.SizedLaws

/- The law: the script, whole (written by wip/mkholds.py). -/
namespace Go.Proofs.YtgjjjdccbpjnfaaGreatDoor
open Go.RowKit

set_option maxHeartbeats 8000000 in
set_option maxRecDepth 100000 in
theorem hold_round (l : List POp) (asl : Option Addr) (csl : Nat) (w : World) (m : Int) (c15 c16 : Value) (K0 : Act → World → Prop) (hsc : ∀ (k : Nat) (hk : k < l.length), ∃ b off, asl = some ⟨b, off, none⟩ ∧ ∀ i, i < 14 → w.cell? ⟨b, off + k * 14 + i, none⟩ = l[k].cells[i]?) (hok : ∀ o ∈ l, POp.Ok w o) (hl : l.length ≤ 65536) (hm : w.cell? ⟨0, 0, none⟩ = some (.int .i64 m)) (hexit : ∀ (a' : Act) (w' : World) (v' : Value), HFr l asl csl w c15 c16 l.length v' a' → Below w.heap.size w w' → K0 a' w') (wr : World) (a : Act) (k : Nat) (v : Value) (tw : List (Value × Value)) (hF : HFr l asl csl w c15 c16 k v a) (hk : k ≤ l.length) (htk : tw.length ≤ k) (hS : HSt w wr w.heap.size (k * 2097152) v tw) (K : Act → World → Prop) (hnext : k < l.length → ∀ (a' : Act) (w' : World) (v' : Value) (tw' : List (Value × Value)), HFr l asl csl w c15 c16 (k + 1) v' a' → tw'.length ≤ k + 1 → HSt w w' w.heap.size ((k + 1) * 2097152) v' tw' → K a' w') :
    Code.wp Tryz.prog hBody (Exit.then K (Exit.inBlock 0 (Exit.then K0 (bodyPost Tryz.prog Tryz.f11 fun e w' => e = Ending.returned (.bool true) ∧ Below w.heap.size w w')))) a wr := by
  obtain ⟨u4, hF⟩ := hF
  obtain ⟨u8, hF⟩ := hF
  obtain ⟨u9, hF⟩ := hF
  obtain ⟨u10, hF⟩ := hF
  obtain ⟨u11, hF⟩ := hF
  obtain ⟨u12, hF⟩ := hF
  obtain ⟨u13, hF⟩ := hF
  obtain ⟨u14, hF⟩ := hF
  obtain ⟨u17, hF⟩ := hF
  obtain ⟨u18, hF⟩ := hF
  obtain ⟨u19, hF⟩ := hF
  obtain ⟨u20, hF⟩ := hF
  obtain ⟨u21, hF⟩ := hF
  obtain ⟨u22, hF⟩ := hF
  obtain ⟨u23, hF⟩ := hF
  obtain ⟨u24, hF⟩ := hF
  obtain ⟨u25, hF⟩ := hF
  obtain ⟨u26, hF⟩ := hF
  obtain ⟨u27, hF⟩ := hF
  obtain ⟨u28, hF⟩ := hF
  obtain ⟨u29, hF⟩ := hF
  obtain ⟨u30, hF⟩ := hF
  obtain ⟨u31, hF⟩ := hF
  obtain ⟨u32, hF⟩ := hF
  obtain ⟨u33, hF⟩ := hF
  obtain ⟨u34, hF⟩ := hF
  obtain ⟨u35, hF⟩ := hF
  obtain ⟨u36, hF⟩ := hF
  obtain ⟨u37, hF⟩ := hF
  obtain ⟨u38, hF⟩ := hF
  obtain ⟨u39, hF⟩ := hF
  obtain ⟨u40, hF⟩ := hF
  obtain ⟨u41, hF⟩ := hF
  obtain ⟨u42, hF⟩ := hF
  obtain ⟨u43, hF⟩ := hF
  obtain ⟨u44, hF⟩ := hF
  obtain ⟨u45, hF⟩ := hF
  obtain ⟨u46, hF⟩ := hF
  obtain ⟨u47, hF⟩ := hF
  obtain ⟨u48, hF⟩ := hF
  obtain ⟨u49, hF⟩ := hF
  obtain ⟨u50, hF⟩ := hF
  obtain ⟨u51, hF⟩ := hF
  obtain ⟨u52, hF⟩ := hF
  obtain ⟨u53, hF⟩ := hF
  obtain ⟨u54, hF⟩ := hF
  obtain ⟨u55, hF⟩ := hF
  obtain ⟨u56, hF⟩ := hF
  obtain ⟨u57, hF⟩ := hF
  obtain ⟨u58, hF⟩ := hF
  obtain ⟨u59, hF⟩ := hF
  obtain ⟨u60, hF⟩ := hF
  obtain ⟨u61, hF⟩ := hF
  obtain ⟨u62, hF⟩ := hF
  obtain ⟨u63, hF⟩ := hF
  obtain ⟨u64, hF⟩ := hF
  obtain ⟨u65, hF⟩ := hF
  obtain ⟨u66, hF⟩ := hF
  obtain ⟨u67, hF⟩ := hF
  obtain ⟨u68, hF⟩ := hF
  obtain ⟨u69, hF⟩ := hF
  obtain ⟨u70, hF⟩ := hF
  obtain ⟨u71, hF⟩ := hF
  obtain ⟨u72, hF⟩ := hF
  obtain ⟨u73, hF⟩ := hF
  obtain ⟨u74, hF⟩ := hF
  obtain ⟨u75, hF⟩ := hF
  obtain ⟨u76, hF⟩ := hF
  obtain ⟨u77, hF⟩ := hF
  obtain ⟨u78, hF⟩ := hF
  obtain ⟨u79, hF⟩ := hF
  obtain ⟨u80, hF⟩ := hF
  obtain ⟨u81, hF⟩ := hF
  obtain ⟨u82, hF⟩ := hF
  obtain ⟨u83, hF⟩ := hF
  obtain ⟨u84, hF⟩ := hF
  obtain ⟨u85, hF⟩ := hF
  obtain ⟨u86, hF⟩ := hF
  obtain ⟨u87, hF⟩ := hF
  obtain ⟨u88, hF⟩ := hF
  obtain ⟨u89, hF⟩ := hF
  obtain ⟨u90, hF⟩ := hF
  obtain ⟨u91, hF⟩ := hF
  obtain ⟨u92, hF⟩ := hF
  obtain ⟨u93, hF⟩ := hF
  obtain ⟨u94, hF⟩ := hF
  obtain ⟨u95, hF⟩ := hF
  obtain ⟨u96, hF⟩ := hF
  obtain ⟨u97, hF⟩ := hF
  obtain ⟨u98, hF⟩ := hF
  obtain ⟨u99, hF⟩ := hF
  obtain ⟨u100, hF⟩ := hF
  obtain ⟨u101, hF⟩ := hF
  obtain ⟨u102, hF⟩ := hF
  obtain ⟨u103, hF⟩ := hF
  obtain ⟨u104, hF⟩ := hF
  obtain ⟨u105, hF⟩ := hF
  obtain ⟨u106, hF⟩ := hF
  obtain ⟨u107, hF⟩ := hF
  obtain ⟨u108, hF⟩ := hF
  obtain ⟨u109, hF⟩ := hF
  obtain ⟨u110, hF⟩ := hF
  obtain ⟨u111, hF⟩ := hF
  obtain ⟨u112, hF⟩ := hF
  obtain ⟨u113, hF⟩ := hF
  obtain ⟨u114, hF⟩ := hF
  obtain ⟨u115, hF⟩ := hF
  obtain ⟨u116, hF⟩ := hF
  obtain ⟨u117, hF⟩ := hF
  obtain ⟨u118, hF⟩ := hF
  obtain ⟨u119, hF⟩ := hF
  obtain ⟨u120, hF⟩ := hF
  obtain ⟨u121, hF⟩ := hF
  obtain ⟨u122, hF⟩ := hF
  obtain ⟨u123, hF⟩ := hF
  obtain ⟨u124, hF⟩ := hF
  obtain ⟨u125, hF⟩ := hF
  obtain ⟨u126, hF⟩ := hF
  obtain ⟨u127, hF⟩ := hF
  obtain ⟨u128, hF⟩ := hF
  obtain ⟨u129, hF⟩ := hF
  obtain ⟨u130, hF⟩ := hF
  obtain ⟨u131, hF⟩ := hF
  obtain ⟨u132, hF⟩ := hF
  obtain ⟨u133, hF⟩ := hF
  obtain ⟨u134, hF⟩ := hF
  obtain ⟨u135, hF⟩ := hF
  obtain ⟨u136, hF⟩ := hF
  obtain ⟨u137, hF⟩ := hF
  obtain ⟨u138, hF⟩ := hF
  obtain ⟨u139, hF⟩ := hF
  obtain ⟨u140, hF⟩ := hF
  obtain ⟨u141, hF⟩ := hF
  obtain ⟨u142, hF⟩ := hF
  obtain ⟨u143, hF⟩ := hF
  obtain ⟨u144, hF⟩ := hF
  obtain ⟨u145, hF⟩ := hF
  obtain ⟨u146, hF⟩ := hF
  obtain ⟨u147, hF⟩ := hF
  obtain ⟨u148, hF⟩ := hF
  obtain ⟨u149, hF⟩ := hF
  obtain ⟨u150, hF⟩ := hF
  obtain ⟨u151, hF⟩ := hF
  obtain ⟨u152, hF⟩ := hF
  obtain ⟨u153, hF⟩ := hF
  obtain ⟨i, rfl, rfl⟩ := hF
  by_cases hlt : k < l.length
  · obtain ⟨b, off, rfl, hcell⟩ := hsc k hlt
    have hO := hok _ (List.getElem_mem hlt)
    generalize l[k] = o at hcell hO
    obtain ⟨kind, p, n, odd, S, c, vD, vN, vU, vW⟩ := o
    have hcfg : CfgAt w c vD vN vU vW := hO.cfg
    obtain ⟨aD, cD, eD⟩ := slice_of hcfg.1
    obtain ⟨aN, cN, eN⟩ := slice_of hcfg.2.1
    obtain ⟨aU, cU, eU⟩ := slice_of hcfg.2.2.1
    obtain ⟨aW, cW, eW⟩ := slice_of hcfg.2.2.2
    subst eD eN eU eW
    have hin : HIn l w wr b off csl k v tw m c15 c16 kind p n odd S c aD aN aU aW cD cN cU cW K := ⟨hS, htk, hlt, hl, hO, fun i u hi e => (hcell i hi).trans e, hm, hnext hlt⟩
    by_cases hA : 4 < kind
    · by_cases h12 : kind = 12
      · by_cases htw : tw.length = 0
        · exact hold_none12 l w wr b off csl k v tw m c15 c16 kind p n odd S c aD aN aU aW cD cN cU cW K K0 u4 u8 u9 u10 u11 u12 u13 u14 u17 u18 u19 u20 u21 u22 u23 u24 u25 u26 u27 u28 u29 u30 u31 u32 u33 u34 u35 u36 u37 u38 u39 u40 u41 u42 u43 u44 u45 u46 u47 u48 u49 u50 u51 u52 u53 u54 u55 u56 u57 u58 u59 u60 u61 u62 u63 u64 u65 u66 u67 u68 u69 u70 u71 u72 u73 u74 u75 u76 u77 u78 u79 u80 u81 u82 u83 u84 u85 u86 u87 u88 u89 u90 u91 u92 u93 u94 u95 u96 u97 u98 u99 u100 u101 u102 u103 u104 u105 u106 u107 u108 u109 u110 u111 u112 u113 u114 u115 u116 u117 u118 u119 u120 u121 u122 u123 u124 u125 u126 u127 u128 u129 u130 u131 u132 u133 u134 u135 u136 u137 u138 u139 u140 u141 u142 u143 u144 u145 u146 u147 u148 u149 u150 u151 u152 u153 hin h12 htw
        · exact hold_reopen l w wr b off csl k v tw m c15 c16 kind p n odd S c aD aN aU aW cD cN cU cW K K0 u4 u8 u9 u10 u11 u12 u13 u14 u17 u18 u19 u20 u21 u22 u23 u24 u25 u26 u27 u28 u29 u30 u31 u32 u33 u34 u35 u36 u37 u38 u39 u40 u41 u42 u43 u44 u45 u46 u47 u48 u49 u50 u51 u52 u53 u54 u55 u56 u57 u58 u59 u60 u61 u62 u63 u64 u65 u66 u67 u68 u69 u70 u71 u72 u73 u74 u75 u76 u77 u78 u79 u80 u81 u82 u83 u84 u85 u86 u87 u88 u89 u90 u91 u92 u93 u94 u95 u96 u97 u98 u99 u100 u101 u102 u103 u104 u105 u106 u107 u108 u109 u110 u111 u112 u113 u114 u115 u116 u117 u118 u119 u120 u121 u122 u123 u124 u125 u126 u127 u128 u129 u130 u131 u132 u133 u134 u135 u136 u137 u138 u139 u140 u141 u142 u143 u144 u145 u146 u147 u148 u149 u150 u151 u152 u153 hin h12 htw
      · exact hold_far l w wr b off csl k v tw m c15 c16 kind p n odd S c aD aN aU aW cD cN cU cW K K0 u4 u8 u9 u10 u11 u12 u13 u14 u17 u18 u19 u20 u21 u22 u23 u24 u25 u26 u27 u28 u29 u30 u31 u32 u33 u34 u35 u36 u37 u38 u39 u40 u41 u42 u43 u44 u45 u46 u47 u48 u49 u50 u51 u52 u53 u54 u55 u56 u57 u58 u59 u60 u61 u62 u63 u64 u65 u66 u67 u68 u69 u70 u71 u72 u73 u74 u75 u76 u77 u78 u79 u80 u81 u82 u83 u84 u85 u86 u87 u88 u89 u90 u91 u92 u93 u94 u95 u96 u97 u98 u99 u100 u101 u102 u103 u104 u105 u106 u107 u108 u109 u110 u111 u112 u113 u114 u115 u116 u117 u118 u119 u120 u121 u122 u123 u124 u125 u126 u127 u128 u129 u130 u131 u132 u133 u134 u135 u136 u137 u138 u139 u140 u141 u142 u143 u144 u145 u146 u147 u148 u149 u150 u151 u152 u153 hin hA h12
    · by_cases h1 : kind = 1
      · exact hold_open l w wr b off csl k v tw m c15 c16 kind p n odd S c aD aN aU aW cD cN cU cW K K0 u4 u8 u9 u10 u11 u12 u13 u14 u17 u18 u19 u20 u21 u22 u23 u24 u25 u26 u27 u28 u29 u30 u31 u32 u33 u34 u35 u36 u37 u38 u39 u40 u41 u42 u43 u44 u45 u46 u47 u48 u49 u50 u51 u52 u53 u54 u55 u56 u57 u58 u59 u60 u61 u62 u63 u64 u65 u66 u67 u68 u69 u70 u71 u72 u73 u74 u75 u76 u77 u78 u79 u80 u81 u82 u83 u84 u85 u86 u87 u88 u89 u90 u91 u92 u93 u94 u95 u96 u97 u98 u99 u100 u101 u102 u103 u104 u105 u106 u107 u108 u109 u110 u111 u112 u113 u114 u115 u116 u117 u118 u119 u120 u121 u122 u123 u124 u125 u126 u127 u128 u129 u130 u131 u132 u133 u134 u135 u136 u137 u138 u139 u140 u141 u142 u143 u144 u145 u146 u147 u148 u149 u150 u151 u152 u153 hin h1
      · by_cases h2 : kind = 2
        · exact hold_nobody l w wr b off csl k v tw m c15 c16 kind p n odd S c aD aN aU aW cD cN cU cW K K0 u4 u8 u9 u10 u11 u12 u13 u14 u17 u18 u19 u20 u21 u22 u23 u24 u25 u26 u27 u28 u29 u30 u31 u32 u33 u34 u35 u36 u37 u38 u39 u40 u41 u42 u43 u44 u45 u46 u47 u48 u49 u50 u51 u52 u53 u54 u55 u56 u57 u58 u59 u60 u61 u62 u63 u64 u65 u66 u67 u68 u69 u70 u71 u72 u73 u74 u75 u76 u77 u78 u79 u80 u81 u82 u83 u84 u85 u86 u87 u88 u89 u90 u91 u92 u93 u94 u95 u96 u97 u98 u99 u100 u101 u102 u103 u104 u105 u106 u107 u108 u109 u110 u111 u112 u113 u114 u115 u116 u117 u118 u119 u120 u121 u122 u123 u124 u125 u126 u127 u128 u129 u130 u131 u132 u133 u134 u135 u136 u137 u138 u139 u140 u141 u142 u143 u144 u145 u146 u147 u148 u149 u150 u151 u152 u153 hin h2
        · by_cases htw : tw.length = 0
          · exact hold_none l w wr b off csl k v tw m c15 c16 kind p n odd S c aD aN aU aW cD cN cU cW K K0 u4 u8 u9 u10 u11 u12 u13 u14 u17 u18 u19 u20 u21 u22 u23 u24 u25 u26 u27 u28 u29 u30 u31 u32 u33 u34 u35 u36 u37 u38 u39 u40 u41 u42 u43 u44 u45 u46 u47 u48 u49 u50 u51 u52 u53 u54 u55 u56 u57 u58 u59 u60 u61 u62 u63 u64 u65 u66 u67 u68 u69 u70 u71 u72 u73 u74 u75 u76 u77 u78 u79 u80 u81 u82 u83 u84 u85 u86 u87 u88 u89 u90 u91 u92 u93 u94 u95 u96 u97 u98 u99 u100 u101 u102 u103 u104 u105 u106 u107 u108 u109 u110 u111 u112 u113 u114 u115 u116 u117 u118 u119 u120 u121 u122 u123 u124 u125 u126 u127 u128 u129 u130 u131 u132 u133 u134 u135 u136 u137 u138 u139 u140 u141 u142 u143 u144 u145 u146 u147 u148 u149 u150 u151 u152 u153 hin (by omega) h1 h2 htw
          · by_cases h3 : kind = 3
            · exact hold_kept l w wr b off csl k v tw m c15 c16 kind p n odd S c aD aN aU aW cD cN cU cW K K0 u4 u8 u9 u10 u11 u12 u13 u14 u17 u18 u19 u20 u21 u22 u23 u24 u25 u26 u27 u28 u29 u30 u31 u32 u33 u34 u35 u36 u37 u38 u39 u40 u41 u42 u43 u44 u45 u46 u47 u48 u49 u50 u51 u52 u53 u54 u55 u56 u57 u58 u59 u60 u61 u62 u63 u64 u65 u66 u67 u68 u69 u70 u71 u72 u73 u74 u75 u76 u77 u78 u79 u80 u81 u82 u83 u84 u85 u86 u87 u88 u89 u90 u91 u92 u93 u94 u95 u96 u97 u98 u99 u100 u101 u102 u103 u104 u105 u106 u107 u108 u109 u110 u111 u112 u113 u114 u115 u116 u117 u118 u119 u120 u121 u122 u123 u124 u125 u126 u127 u128 u129 u130 u131 u132 u133 u134 u135 u136 u137 u138 u139 u140 u141 u142 u143 u144 u145 u146 u147 u148 u149 u150 u151 u152 u153 hin h3 htw
            · by_cases h4 : kind = 4
              · exact hold_queue l w wr b off csl k v tw m c15 c16 kind p n odd S c aD aN aU aW cD cN cU cW K K0 u4 u8 u9 u10 u11 u12 u13 u14 u17 u18 u19 u20 u21 u22 u23 u24 u25 u26 u27 u28 u29 u30 u31 u32 u33 u34 u35 u36 u37 u38 u39 u40 u41 u42 u43 u44 u45 u46 u47 u48 u49 u50 u51 u52 u53 u54 u55 u56 u57 u58 u59 u60 u61 u62 u63 u64 u65 u66 u67 u68 u69 u70 u71 u72 u73 u74 u75 u76 u77 u78 u79 u80 u81 u82 u83 u84 u85 u86 u87 u88 u89 u90 u91 u92 u93 u94 u95 u96 u97 u98 u99 u100 u101 u102 u103 u104 u105 u106 u107 u108 u109 u110 u111 u112 u113 u114 u115 u116 u117 u118 u119 u120 u121 u122 u123 u124 u125 u126 u127 u128 u129 u130 u131 u132 u133 u134 u135 u136 u137 u138 u139 u140 u141 u142 u143 u144 u145 u146 u147 u148 u149 u150 u151 u152 u153 hin h4 htw
              · exact hold_low l w wr b off csl k v tw m c15 c16 kind p n odd S c aD aN aU aW cD cN cU cW K K0 u4 u8 u9 u10 u11 u12 u13 u14 u17 u18 u19 u20 u21 u22 u23 u24 u25 u26 u27 u28 u29 u30 u31 u32 u33 u34 u35 u36 u37 u38 u39 u40 u41 u42 u43 u44 u45 u46 u47 u48 u49 u50 u51 u52 u53 u54 u55 u56 u57 u58 u59 u60 u61 u62 u63 u64 u65 u66 u67 u68 u69 u70 u71 u72 u73 u74 u75 u76 u77 u78 u79 u80 u81 u82 u83 u84 u85 u86 u87 u88 u89 u90 u91 u92 u93 u94 u95 u96 u97 u98 u99 u100 u101 u102 u103 u104 u105 u106 u107 u108 u109 u110 u111 u112 u113 u114 u115 u116 u117 u118 u119 u120 u121 u122 u123 u124 u125 u126 u127 u128 u129 u130 u131 u132 u133 u134 u135 u136 u137 u138 u139 u140 u141 u142 u143 u144 u145 u146 u147 u148 u149 u150 u151 u152 u153 hin h1 h2 (by omega) htw
  · have hk9 : k = l.length := by omega
    subst hk9
    have HX := Lib.hid hexit
    have HB := Lib.hid hS.below
    clear hexit hS hnext hsc hok hm
    conv => arg 2; whnf
    go_wp2_with fail
    refine HX.out _ _ v ?_ HB.out
    exact ⟨_, _, _, _, _, _, _, _, _, _, _, _, _, _, _, _, _, _, _, _, _, _, _, _, _, _, _, _, _, _, _, _, _, _, _, _, _, _, _, _, _, _, _, _, _, _, _, _, _, _, _, _, _, _, _, _, _, _, _, _, _, _, _, _, _, _, _, _, _, _, _, _, _, _, _, _, _, _, _, _, _, _, _, _, _, _, _, _, _, _, _, _, _, _, _, _, _, _, _, _, _, _, _, _, _, _, _, _, _, _, _, _, _, _, _, _, _, _, _, _, _, _, _, _, _, _, _, _, _, _, _, _, _, _, _, _, _, _, _, _, _, _, _, _, _, _, rfl, rfl⟩
set_option maxHeartbeats 8000000 in
set_option maxRecDepth 100000 in
theorem hold_loop (l : List POp) (asl : Option Addr) (csl : Nat) (w : World) (m : Int) (c15 c16 : Value) (K0 : Act → World → Prop) (hsc : ∀ (k : Nat) (hk : k < l.length), ∃ b off, asl = some ⟨b, off, none⟩ ∧ ∀ i, i < 14 → w.cell? ⟨b, off + k * 14 + i, none⟩ = l[k].cells[i]?) (hok : ∀ o ∈ l, POp.Ok w o) (hl : l.length ≤ 65536) (hm : w.cell? ⟨0, 0, none⟩ = some (.int .i64 m)) (hexit : ∀ (a' : Act) (w' : World) (v' : Value), HFr l asl csl w c15 c16 l.length v' a' → Below w.heap.size w w' → K0 a' w') (a : Act) (wr : World) (v : Value) (hF : HFr l asl csl w c15 c16 0 v a) (hS : HSt w wr w.heap.size 0 v []) :
    Code.wp Tryz.prog (Code.loop hBody) (Exit.inBlock 0 (Exit.then K0 (bodyPost Tryz.prog Tryz.f11 fun e w' => e = Ending.returned (.bool true) ∧ Below w.heap.size w w'))) a wr := by
  refine wp_loop_ghost (fun n a' w' => ∃ (k : Nat) (v' : Value) (tw : List (Value × Value)), n + k = l.length ∧ tw.length ≤ k ∧ HFr l asl csl w c15 c16 k v' a' ∧ HSt w w' w.heap.size (k * 2097152) v' tw) l.length ⟨0, v, [], rfl, Nat.le_refl _, hF, by simpa using hS⟩ ?_
  rintro n a' w' ⟨k, v', tw, hn, htk, hF', hS'⟩
  refine hold_round l asl csl w m c15 c16 K0 hsc hok hl hm hexit w' a' k v' tw hF' (by omega) htk hS' _ ?_
  intro hlt a2 w2 v2 tw2 hF2 ht2 hS2
  exact ⟨n - 1, by omega, k + 1, v2, tw2, by omega, ht2, hF2, hS2⟩
set_option maxHeartbeats 8000000 in
set_option maxRecDepth 100000 in
theorem holds_any (l : List POp) (v : Value) (m : Int) (w : World) (h : ScriptAt w v l) (hl : l.length ≤ 65536) (hm : w.cell? ⟨0, 0, none⟩ = some (.int .i64 m)) :
    Calls Tryz.prog 11 #[v, .int .i64 4] w fun e w' => e = .returned (.bool true) ∧ Below w.heap.size w w' := by
  obtain ⟨asl, csl, rfl, hsc⟩ := script_cells h
  have HSC := Lib.hid hsc
  have HOK := Lib.hid h.2
  have HM := Lib.hid hm
  obtain ⟨W0, hW0⟩ : ∃ W0 : World, w.alloc (.cells #[.int .i64 0, .int .i64 0, .bool false, .slice none 0 0, .slice none 0 0, .slice none 0 0, .slice none 0 0, .slice none 0 0, .slice none 0 0] 64) = W0 := ⟨_, rfl⟩
  have B0 : Below w.heap.size w W0 := by rw [← hW0]; exact (Below.refl _ _).alloc (Nat.le_refl _) _
  have X0 : W0.heap[w.heap.size]? = some (.cells #[.int .i64 0, .int .i64 0, .bool false, .slice none 0 0, .slice none 0 0, .slice none 0 0, .slice none 0 0, .slice none 0 0, .slice none 0 0] 64 (0, 0)) := by rw [← hW0]; exact heap_alloc_new w _
  have H0 : Hid (HSt w W0 w.heap.size 0 (.slice none 0 0) []) := Lib.hid ⟨World.ownsRow_nil _ _ _ _, fun t ht => by simp at ht, Bk.nil X0 (Nat.le_refl _), B0⟩
  have HW0 := Lib.hid hW0
  clear h hsc hm hW0 B0 X0
  go_enter Tryz.func11, Tryz.ntmps11
  go_wp2_with fail
  rw [HW0.out]
  refine hold_loop l asl csl w m (.agg #[.int .i64 0, .int .i64 0, .bool false, .slice none 0 0, .slice none 0 0, .slice none 0 0, .slice none 0 0, .slice none 0 0, .slice none 0 0]) (.pointer (some ⟨w.heap.size, 0, none⟩)) _ HSC.out HOK.out hl HM.out ?_ _ _ _ ?_ H0.out
  · intro a' w' v' hF hB
    have HB := Lib.hid hB
    clear hB HSC HOK H0 HW0 HM
    rename_i hrest
    apply hrest
    obtain ⟨u4, hF⟩ := hF
    obtain ⟨u8, hF⟩ := hF
    obtain ⟨u9, hF⟩ := hF
    obtain ⟨u10, hF⟩ := hF
    obtain ⟨u11, hF⟩ := hF
    obtain ⟨u12, hF⟩ := hF
    obtain ⟨u13, hF⟩ := hF
    obtain ⟨u14, hF⟩ := hF
    obtain ⟨u17, hF⟩ := hF
    obtain ⟨u18, hF⟩ := hF
    obtain ⟨u19, hF⟩ := hF
    obtain ⟨u20, hF⟩ := hF
    obtain ⟨u21, hF⟩ := hF
    obtain ⟨u22, hF⟩ := hF
    obtain ⟨u23, hF⟩ := hF
    obtain ⟨u24, hF⟩ := hF
    obtain ⟨u25, hF⟩ := hF
    obtain ⟨u26, hF⟩ := hF
    obtain ⟨u27, hF⟩ := hF
    obtain ⟨u28, hF⟩ := hF
    obtain ⟨u29, hF⟩ := hF
    obtain ⟨u30, hF⟩ := hF
    obtain ⟨u31, hF⟩ := hF
    obtain ⟨u32, hF⟩ := hF
    obtain ⟨u33, hF⟩ := hF
    obtain ⟨u34, hF⟩ := hF
    obtain ⟨u35, hF⟩ := hF
    obtain ⟨u36, hF⟩ := hF
    obtain ⟨u37, hF⟩ := hF
    obtain ⟨u38, hF⟩ := hF
    obtain ⟨u39, hF⟩ := hF
    obtain ⟨u40, hF⟩ := hF
    obtain ⟨u41, hF⟩ := hF
    obtain ⟨u42, hF⟩ := hF
    obtain ⟨u43, hF⟩ := hF
    obtain ⟨u44, hF⟩ := hF
    obtain ⟨u45, hF⟩ := hF
    obtain ⟨u46, hF⟩ := hF
    obtain ⟨u47, hF⟩ := hF
    obtain ⟨u48, hF⟩ := hF
    obtain ⟨u49, hF⟩ := hF
    obtain ⟨u50, hF⟩ := hF
    obtain ⟨u51, hF⟩ := hF
    obtain ⟨u52, hF⟩ := hF
    obtain ⟨u53, hF⟩ := hF
    obtain ⟨u54, hF⟩ := hF
    obtain ⟨u55, hF⟩ := hF
    obtain ⟨u56, hF⟩ := hF
    obtain ⟨u57, hF⟩ := hF
    obtain ⟨u58, hF⟩ := hF
    obtain ⟨u59, hF⟩ := hF
    obtain ⟨u60, hF⟩ := hF
    obtain ⟨u61, hF⟩ := hF
    obtain ⟨u62, hF⟩ := hF
    obtain ⟨u63, hF⟩ := hF
    obtain ⟨u64, hF⟩ := hF
    obtain ⟨u65, hF⟩ := hF
    obtain ⟨u66, hF⟩ := hF
    obtain ⟨u67, hF⟩ := hF
    obtain ⟨u68, hF⟩ := hF
    obtain ⟨u69, hF⟩ := hF
    obtain ⟨u70, hF⟩ := hF
    obtain ⟨u71, hF⟩ := hF
    obtain ⟨u72, hF⟩ := hF
    obtain ⟨u73, hF⟩ := hF
    obtain ⟨u74, hF⟩ := hF
    obtain ⟨u75, hF⟩ := hF
    obtain ⟨u76, hF⟩ := hF
    obtain ⟨u77, hF⟩ := hF
    obtain ⟨u78, hF⟩ := hF
    obtain ⟨u79, hF⟩ := hF
    obtain ⟨u80, hF⟩ := hF
    obtain ⟨u81, hF⟩ := hF
    obtain ⟨u82, hF⟩ := hF
    obtain ⟨u83, hF⟩ := hF
    obtain ⟨u84, hF⟩ := hF
    obtain ⟨u85, hF⟩ := hF
    obtain ⟨u86, hF⟩ := hF
    obtain ⟨u87, hF⟩ := hF
    obtain ⟨u88, hF⟩ := hF
    obtain ⟨u89, hF⟩ := hF
    obtain ⟨u90, hF⟩ := hF
    obtain ⟨u91, hF⟩ := hF
    obtain ⟨u92, hF⟩ := hF
    obtain ⟨u93, hF⟩ := hF
    obtain ⟨u94, hF⟩ := hF
    obtain ⟨u95, hF⟩ := hF
    obtain ⟨u96, hF⟩ := hF
    obtain ⟨u97, hF⟩ := hF
    obtain ⟨u98, hF⟩ := hF
    obtain ⟨u99, hF⟩ := hF
    obtain ⟨u100, hF⟩ := hF
    obtain ⟨u101, hF⟩ := hF
    obtain ⟨u102, hF⟩ := hF
    obtain ⟨u103, hF⟩ := hF
    obtain ⟨u104, hF⟩ := hF
    obtain ⟨u105, hF⟩ := hF
    obtain ⟨u106, hF⟩ := hF
    obtain ⟨u107, hF⟩ := hF
    obtain ⟨u108, hF⟩ := hF
    obtain ⟨u109, hF⟩ := hF
    obtain ⟨u110, hF⟩ := hF
    obtain ⟨u111, hF⟩ := hF
    obtain ⟨u112, hF⟩ := hF
    obtain ⟨u113, hF⟩ := hF
    obtain ⟨u114, hF⟩ := hF
    obtain ⟨u115, hF⟩ := hF
    obtain ⟨u116, hF⟩ := hF
    obtain ⟨u117, hF⟩ := hF
    obtain ⟨u118, hF⟩ := hF
    obtain ⟨u119, hF⟩ := hF
    obtain ⟨u120, hF⟩ := hF
    obtain ⟨u121, hF⟩ := hF
    obtain ⟨u122, hF⟩ := hF
    obtain ⟨u123, hF⟩ := hF
    obtain ⟨u124, hF⟩ := hF
    obtain ⟨u125, hF⟩ := hF
    obtain ⟨u126, hF⟩ := hF
    obtain ⟨u127, hF⟩ := hF
    obtain ⟨u128, hF⟩ := hF
    obtain ⟨u129, hF⟩ := hF
    obtain ⟨u130, hF⟩ := hF
    obtain ⟨u131, hF⟩ := hF
    obtain ⟨u132, hF⟩ := hF
    obtain ⟨u133, hF⟩ := hF
    obtain ⟨u134, hF⟩ := hF
    obtain ⟨u135, hF⟩ := hF
    obtain ⟨u136, hF⟩ := hF
    obtain ⟨u137, hF⟩ := hF
    obtain ⟨u138, hF⟩ := hF
    obtain ⟨u139, hF⟩ := hF
    obtain ⟨u140, hF⟩ := hF
    obtain ⟨u141, hF⟩ := hF
    obtain ⟨u142, hF⟩ := hF
    obtain ⟨u143, hF⟩ := hF
    obtain ⟨u144, hF⟩ := hF
    obtain ⟨u145, hF⟩ := hF
    obtain ⟨u146, hF⟩ := hF
    obtain ⟨u147, hF⟩ := hF
    obtain ⟨u148, hF⟩ := hF
    obtain ⟨u149, hF⟩ := hF
    obtain ⟨u150, hF⟩ := hF
    obtain ⟨u151, hF⟩ := hF
    obtain ⟨u152, hF⟩ := hF
    obtain ⟨u153, hF⟩ := hF
    obtain ⟨i, rfl, rfl⟩ := hF
    go_wp2_with fail
    go_ret
    exact ⟨rfl, HB.out⟩
  · exact ⟨_, _, _, _, _, _, _, _, _, _, _, _, _, _, _, _, _, _, _, _, _, _, _, _, _, _, _, _, _, _, _, _, _, _, _, _, _, _, _, _, _, _, _, _, _, _, _, _, _, _, _, _, _, _, _, _, _, _, _, _, _, _, _, _, _, _, _, _, _, _, _, _, _, _, _, _, _, _, _, _, _, _, _, _, _, _, _, _, _, _, _, _, _, _, _, _, _, _, _, _, _, _, _, _, _, _, _, _, _, _, _, _, _, _, _, _, _, _, _, _, _, _, _, _, _, _, _, _, _, _, _, _, _, _, _, _, _, _, _, _, _, _, _, _, _, _, rfl, rfl⟩
end Go.Proofs.YtgjjjdccbpjnfaaGreatDoor

/- The law of stores, walked out of its callees' contracts. -/
namespace Go.Proofs.YtgjjjdccbpjnfaaGreatDoor
open Go.RowKit

set_option maxHeartbeats 2000000 in
set_option maxRecDepth 100000 in
theorem stores_any (l : List POp) (v : Value) (m : Int) (w : World) (h : ScriptAt w v l) (hl : l.length ≤ 65536) (hm : w.cell? ⟨0, 0, none⟩ = some (.int .i64 m)) :
    Calls Tryz.prog 3 #[v] w fun e w' => e = .returned (.bool true) ∧ Below w.heap.size w w' := by
  obtain ⟨av, cv, ev, _⟩ := h.1.shape
  subst ev
  have HM := Lib.hid hm
  have HH := Lib.hid h
  clear hm h
  go_enter Tryz.func3, Tryz.ntmps3
  go_wp2_with fail
  refine (stored_any m _ HM.out).mono ?_
  rintro e w1 ⟨rfl, hb1⟩
  have HB1 := Lib.hid hb1
  clear hb1
  go_wp2_with fail
  obtain ⟨W2, hW2⟩ : ∃ W2 : World, (w1.alloc (.cells #[.string ⟨#[97, 64, 98]⟩] 9)).alloc (.cells #[.int .i64 1, .int .i64 3, .string ⟨#[120, 64, 121]⟩, .slice (some ⟨w1.heap.size, 0, none⟩) 1 1, .string ⟨#[104, 105]⟩] 26) = W2 := ⟨_, rfl⟩
  rw [hW2]
  have B2 : Below w1.heap.size w1 W2 := by rw [← hW2]; exact ((Below.refl _ _).alloc (Nat.le_refl _) _).alloc (by simp) _
  have X2 : W2.heap[w1.heap.size]? = some (.cells #[.string ⟨#[97, 64, 98]⟩] 9 (0, 0)) := by rw [← hW2]; exact below_some ((Below.refl _ _).alloc (Nat.le_refl _) _) (heap_alloc_new w1 _)
  have Y2 : W2.heap[w1.heap.size + 1]? = some (.cells #[.int .i64 1, .int .i64 3, .string ⟨#[120, 64, 121]⟩, .slice (some ⟨w1.heap.size, 0, none⟩) 1 1, .string ⟨#[104, 105]⟩] 26 (0, 0)) := by
    rw [← hW2]
    have := heap_alloc_new (w1.alloc (.cells #[.string ⟨#[97, 64, 98]⟩] 9)) (.cells #[.int .i64 1, .int .i64 3, .string ⟨#[120, 64, 121]⟩, .slice (some ⟨w1.heap.size, 0, none⟩) 1 1, .string ⟨#[104, 105]⟩] 26)
    simpa using this
  have R2 : RowAt W2 (.slice (some ⟨w1.heap.size, 0, none⟩) 1 1) oneMail.tos.length 1 (textCells oneMail.tos) := row_here X2 rfl
  have HR2 := Lib.hid R2
  have HY2 := Lib.hid Y2
  have HB2 := Lib.hid (HB1.out.trans (B2.mono HB1.out.size))
  clear hW2 B2 X2 Y2 R2
  refine (record_any oneMail _ W2 HR2.out one_size (by decide)).mono ?_
  rintro e w3 ⟨rfl, hb3⟩
  obtain ⟨T, hT⟩ : ∃ T, bs oneText = T := ⟨_, rfl⟩
  have HT := Lib.hid hT
  have eT : bs (frameE (mailE oneMail)) = T := hT
  rw [eT]
  have HR3 := Lib.hid (HR2.out.below hb3)
  have HY3 := Lib.hid (below_some hb3 HY2.out)
  have HB3 := Lib.hid (HB2.out.trans (hb3.mono HB2.out.size))
  clear hb3 HR2 HY2 hT eT
  go_wp2_with fail
  refine (plain_any _).mono ?_
  rintro e w4 ⟨vD, vN, vU, vW, rfl, hc, hb4⟩
  have HB4 := Lib.hid (HB3.out.trans (hb4.mono HB3.out.size))
  have HR4 := Lib.hid (HR3.out.below hb4)
  have HY4 := Lib.hid (below_some hb4 HY3.out)
  have HOP := Lib.hid (open_any plainCfg _ _ _ _ oneText m w4 hc plain_size (by decide) ((HB4.out.cell (by exact block_lt HM.out)).trans HM.out))
  rw [HT.out] at HOP
  obtain ⟨aD, cD, eD⟩ := slice_of hc.1
  obtain ⟨aN, cN, eN⟩ := slice_of hc.2.1
  obtain ⟨aU, cU, eU⟩ := slice_of hc.2.2.1
  obtain ⟨aW, cW, eW⟩ := slice_of hc.2.2.2
  subst eD eN eU eW
  clear hc hb4 HR3 HY3
  simp only [Cfg.val]
  go_wp2_with fail
  refine HOP.out.mono ?_
  rintro e w5 ⟨h | ⟨pp, _, rfl, hP⟩, hb5⟩
  · exact absurd h.1 (by rw [plain_may]; decide)
  have HP := Lib.hid hP
  have HB5 := Lib.hid (HB4.out.trans (hb5.mono HB4.out.size))
  have HR5 := Lib.hid (HR4.out.below hb5)
  have HY5 := Lib.hid (below_some hb5 HY4.out)
  clear hP hb5 HOP HR4 HY4
  go_wp2_with fail
  refine (postKept_any _ _ _ _ HP.out).mono ?_
  rintro e w6 ⟨rfl, rfl⟩
  rw [one_take, HT.out]
  go_wp2_with fail
  refine (postQueue_any _ _ _ _ HP.out (by decide)).mono ?_
  rintro e w7 ⟨v7, rows, rfl, hr7, he7, hb7⟩
  rw [one_queue] at he7
  obtain ⟨a7, c7, e7⟩ := own_len hr7.row
  subst e7
  have HR7 := Lib.hid hr7
  have HE7 := Lib.hid he7
  have HB7 := Lib.hid (HB5.out.trans (hb7.mono HB5.out.size))
  have HT7 := Lib.hid (HR5.out.below hb7)
  have y7 := below_some hb7 HY5.out
  have y0 : w7.cell? ⟨w1.heap.size + 1, 0, none⟩ = some (.int .i64 1) := by rw [Lib.cell_of_heap y7]; rfl
  have y1 : w7.cell? ⟨w1.heap.size + 1, 1, none⟩ = some (.int .i64 3) := by rw [Lib.cell_of_heap y7]; rfl
  have y2 : w7.cell? ⟨w1.heap.size + 1, 2, none⟩ = some (.string ⟨#[120, 64, 121]⟩) := by rw [Lib.cell_of_heap y7]; rfl
  have y3 : w7.cell? ⟨w1.heap.size + 1, 3, none⟩ = some (.slice (some ⟨w1.heap.size, 0, none⟩) 1 1) := by rw [Lib.cell_of_heap y7]; rfl
  have y4 : w7.cell? ⟨w1.heap.size + 1, 4, none⟩ = some (.string ⟨#[104, 105]⟩) := by rw [Lib.cell_of_heap y7]; rfl
  clear hr7 he7 hb7 HR5 HY5 HP y7
  go_wp2_with fail
  obtain ⟨W8, hW8⟩ : ∃ W8 : World, w7.alloc (.cells #[.int .i64 1, .int .i64 3, .string ⟨#[120, 64, 121]⟩, .slice (some ⟨w1.heap.size, 0, none⟩) 1 1, .string ⟨#[104, 105]⟩] 26) = W8 := ⟨_, rfl⟩
  rw [hW8]
  have B8 : Below w7.heap.size w7 W8 := by rw [← hW8]; exact (Below.refl _ _).alloc (Nat.le_refl _) _
  have X8 : W8.heap[w7.heap.size]? = some (.cells #[.int .i64 1, .int .i64 3, .string ⟨#[120, 64, 121]⟩, .slice (some ⟨w1.heap.size, 0, none⟩) 1 1, .string ⟨#[104, 105]⟩] 26 (0, 0)) := by rw [← hW8]; exact heap_alloc_new w7 _
  have M8 : MailsAt W8 (.slice (some ⟨w7.heap.size, 0, none⟩) 1 1) [oneMail] := by
    refine ⟨[(oneMail, .slice (some ⟨w1.heap.size, 0, none⟩) 1 1)], rfl, row_here X8 rfl, fun x hx => ?_⟩
    obtain rfl := List.mem_singleton.1 hx
    exact HT7.out.below B8
  have L8 : MailsAt W8 (.slice a7 rows.length c7) [oneMail] := by rw [← HE7.out]; exact (HR7.out.keep B8).at
  have HM8 := Lib.hid M8
  have HL8 := Lib.hid L8
  have HB8 := Lib.hid (HB7.out.trans (B8.mono HB7.out.size))
  clear hW8 B8 X8 M8 L8 HR7 HE7 HT7 y0 y1 y2 y3 y4
  refine (sameQ_any [oneMail] _ _ W8 HL8.out HM8.out ⟨by decide, fun x hx => by obtain rfl := List.mem_singleton.1 hx; decide⟩).mono ?_
  rintro e w9 ⟨rfl, hb9⟩
  have HB9 := Lib.hid (HB8.out.trans (hb9.mono HB8.out.size))
  clear hb9 HM8 HL8
  go_wp2_with fail
  refine (holds_any l _ m w9 ⟨HH.out.1.below HB9.out, fun o ho => (HH.out.2 o ho).below HB9.out⟩ hl ((HB9.out.cell (by exact block_lt HM.out)).trans HM.out)).mono ?_
  rintro e wa ⟨rfl, hba⟩
  have t1 : (T.toList == T.toList) = true := by simp
  have HBa := Lib.hid (HB9.out.trans (hba.mono HB9.out.size))
  clear hba
  go_wp2_with fail
  go_ret
  exact ⟨rfl, HBa.out⟩
end Go.Proofs.YtgjjjdccbpjnfaaGreatDoor

/- Settings that came in, opened: whatever a Config reads as, it is a Cfg, with sizes that the reach bounds. -/
namespace Go.Proofs.YtgjjjdccbpjnfaaGreatDoor
open Go.ChangeShapes Go.WideShapes Go.RowKit Go.Deep

section
variable {H : Type} {enc : TypeId × Value → H} {w : World} {base : Nat} {spare : Nat → Bool} {held : Bool}

theorem reach_eq : reachBytes = 140737488351232 := by decide
theorem bytes_str : Tryz.prog.bytesOf 9 = 16 := by kernel_rfl
theorem bytes_net : Tryz.prog.bytesOf 82 = 16 := by kernel_rfl
theorem bytes_user : Tryz.prog.bytesOf 56 = 32 := by kernel_rfl
theorem bytes_int : Tryz.prog.bytesOf 3 = 8 := by kernel_rfl
theorem cells_str : Tryz.prog.cellsOf 9 = 1 := by kernel_rfl
theorem cells_int : Tryz.prog.cellsOf 3 = 1 := by kernel_rfl
theorem cells_net : Tryz.prog.cellsOf 82 = 2 := by kernel_rfl
theorem cells_user : Tryz.prog.cellsOf 56 = 2 := by kernel_rfl
theorem cells_strs : Tryz.prog.cellsOf 24 = 1 := by kernel_rfl
theorem cells_nets : Tryz.prog.cellsOf 32 = 1 := by kernel_rfl
theorem cells_users : Tryz.prog.cellsOf 33 = 1 := by kernel_rfl
theorem cells_ints : Tryz.prog.cellsOf 34 = 1 := by kernel_rfl
theorem cells_cfg : Tryz.prog.cellsOf 36 = 9 := by kernel_rfl

/-- the reach bounds a slice's length -/
theorem slice_weight {P : Program} {t e : TypeId} {el sp : List (DataW H)} (ht : P.underlying t = some (.slice e)) (hz : ((DataW.slice el sp).weights P t).all (· ≤ reachBytes) = true) : el.length * P.bytesOf e ≤ 140737488351232 := by
  simp only [DataW.weights, ht, List.all_cons, Bool.and_eq_true, decide_eq_true_eq] at hz
  have h1 := hz.1
  rw [reach_eq] at h1
  have h2 : el.length * P.bytesOf e ≤ (el.length + sp.length) * P.bytesOf e := Nat.mul_le_mul_right _ (by omega)
  omega

theorem row_mk {a : Addr} {len cap sz : Nat} {cs : List Value} (hsz : 0 < sz) (hl : cs.length = len * sz) (hcap : len ≤ cap) (hc : ∀ j : Nat, j < len * sz → w.cell? (a.add j) = cs[j]?) : RowAt w (.slice (some a) len cap) len sz cs := by
  refine ⟨hl, ?_⟩
  rcases Nat.eq_zero_or_pos len with rfl | hp
  · exact .inl ⟨rfl, _, _, rfl⟩
  · obtain ⟨b, off, spot⟩ := a
    have h0 : 0 < len * sz := Nat.mul_pos hp hsz
    have e0 := hc 0 h0
    rw [List.getElem?_eq_getElem (by omega)] at e0
    have hspot : spot = none := by simpa [Addr.add] using World.cell?_spot e0
    subst hspot
    exact .inr ⟨b, off, cap, rfl, hcap, fun j hj => by rw [← add_plain]; exact hc j hj⟩

theorem row_strs {fuel : Nat} {cs : List Value} {x : DataW H × List MemPlace} (h : DataW.trod enc Tryz.prog w base spare held fuel 24 cs = some x) (hz : (x.1.weights Tryz.prog 24).all (· ≤ reachBytes) = true) :
    ∃ (v : Value) (l : List ByteArray), cs = [v] ∧ RowAt w v l.length 1 (strCellsOf l) ∧ (∀ s ∈ l, s.size ≤ maxLen) ∧ 16 * l.length ≤ 140737488351232 := by
  rcases open_slice1 Tryz.underlying24 cells_str h with ⟨rfl, rfl⟩ | ⟨a, len, cap, m, n, V, D, Pl, rfl, _, hl, hm, hmm, rfl, hx⟩
  · exact ⟨_, [], rfl, ⟨rfl, .inl ⟨rfl, _, _, rfl⟩⟩, (fun _ h => by cases h), by decide⟩
  · have hlm : len ≤ m := by rw [hmm]; split <;> omega
    have hw := slice_weight Tryz.underlying24 hz
    simp only [List.length_map, List.length_range, bytes_str] at hw
    have each : ∀ i, i < len → ∃ s : ByteArray, w.cell? (a.add i) = some (.string s) ∧ s.size ≤ maxLen := fun i hi => by
      obtain ⟨h1, h2⟩ := hx i (by omega)
      obtain ⟨s, e, _, hs⟩ := DataW.trod_string Tryz.underlying9 h2
      simp only [List.cons.injEq, and_true] at e
      exact ⟨s, by rw [h1, e], hs⟩
    obtain ⟨S, hS⟩ := choose_lt each
    have hn : ((List.range len).map S).length = len := by simp
    refine ⟨_, (List.range len).map S, rfl, ?_, ?_, by rw [hn]; omega⟩
    · rw [hn]
      refine row_mk (by decide) (by simp [strCellsOf]) hl fun j hj => ?_
      rw [Nat.mul_one] at hj
      rw [(hS j hj).1]
      simp [strCellsOf, hj]
    · intro s hs
      obtain ⟨i, hi, rfl⟩ := List.mem_map.1 hs
      exact (hS i (List.mem_range.1 hi)).2

theorem row_ints {fuel : Nat} {cs : List Value} {x : DataW H × List MemPlace} (h : DataW.trod enc Tryz.prog w base spare held fuel 34 cs = some x) (hz : (x.1.weights Tryz.prog 34).all (· ≤ reachBytes) = true) :
    ∃ (v : Value) (l : List Int), cs = [v] ∧ RowAt w v l.length 1 (intCells l) ∧ 8 * l.length ≤ 140737488351232 := by
  rcases open_slice1 Tryz.underlying34 cells_int h with ⟨rfl, rfl⟩ | ⟨a, len, cap, m, n, V, D, Pl, rfl, _, hl, hm, hmm, rfl, hx⟩
  · exact ⟨_, [], rfl, ⟨rfl, .inl ⟨rfl, _, _, rfl⟩⟩, by decide⟩
  · have hlm : len ≤ m := by rw [hmm]; split <;> omega
    have hw := slice_weight Tryz.underlying34 hz
    simp only [List.length_map, List.length_range, bytes_int] at hw
    have each : ∀ i, i < len → ∃ s : Int, w.cell? (a.add i) = some (.int .i64 s) := fun i hi => by
      obtain ⟨h1, h2⟩ := hx i (by omega)
      obtain ⟨s, e, _⟩ := DataW.trod_int Tryz.underlying3 h2
      simp only [List.cons.injEq, and_true] at e
      exact ⟨s, by rw [h1, e]⟩
    obtain ⟨S, hS⟩ := choose_lt each
    have hn : ((List.range len).map S).length = len := by simp
    refine ⟨_, (List.range len).map S, rfl, ?_, by rw [hn]; omega⟩
    rw [hn]
    refine row_mk (by decide) (by simp [intCells]) hl fun j hj => ?_
    rw [Nat.mul_one] at hj
    rw [hS j hj]
    simp [intCells, hj]

theorem netCells_len (l : List (Int × Int)) : (netCells l).length = l.length * 2 := by
  induction l with
  | nil => rfl
  | cons a l ih => show (_ :: _ :: netCells l).length = _; simp only [List.length_cons, ih]; omega

theorem two_of {n j : Nat} (h : j < n * 2) : ∃ k, k < n ∧ (j = k * 2 ∨ j = k * 2 + 1) := ⟨j / 2, by omega, by omega⟩

theorem row_nets {f0 f1 : Field} {fuel : Nat} {cs : List Value} {x : DataW H × List MemPlace} (hs : Tryz.prog.underlying 82 = some (.struct #[f0, f1])) (o0 : f0.offset = 0) (o1 : f1.offset = 1) (t0 : f0.type = 3) (t1 : f1.type = 3)
    (h : DataW.trod enc Tryz.prog w base spare held fuel 32 cs = some x) (hz : (x.1.weights Tryz.prog 32).all (· ≤ reachBytes) = true) :
    ∃ (v : Value) (l : List (Int × Int)), cs = [v] ∧ RowAt w v l.length 2 (netCells l) ∧ 16 * l.length ≤ 140737488351232 := by
  rcases open_slice_pairs Tryz.underlying32 hs cells_net o0 o1 (by rw [t0]; exact cells_int) (by rw [t1]; exact cells_int) h with ⟨rfl, rfl⟩ | ⟨a, len, cap, m, n, V0, V1, D0, D1, P0, P1, rfl, _, hl, hm, hmm, rfl, hx⟩
  · exact ⟨_, [], rfl, ⟨rfl, .inl ⟨rfl, _, _, rfl⟩⟩, by decide⟩
  · have hlm : len ≤ m := by rw [hmm]; split <;> omega
    have hw := slice_weight Tryz.underlying32 hz
    simp only [List.length_map, List.length_range, bytes_net] at hw
    have each : ∀ i, i < len → ∃ s : Int × Int, w.cell? (a.add (i * 2)) = some (.int .i64 s.1) ∧ w.cell? (a.add (i * 2 + 1)) = some (.int .i64 s.2) := fun i hi => by
      obtain ⟨h1, h2, h3, h4⟩ := hx i (by omega)
      rw [t0] at h3
      rw [t1] at h4
      obtain ⟨s, e, _⟩ := DataW.trod_int Tryz.underlying3 h3
      obtain ⟨s', e', _⟩ := DataW.trod_int Tryz.underlying3 h4
      simp only [List.cons.injEq, and_true] at e e'
      exact ⟨(s, s'), by rw [h1, e], by rw [h2, e']⟩
    obtain ⟨S, hS⟩ := choose_lt each
    have hn : ((List.range len).map S).length = len := by simp
    refine ⟨_, (List.range len).map S, rfl, ?_, by rw [hn]; omega⟩
    rw [hn]
    refine row_mk (by decide) (by rw [netCells_len, hn]) hl fun j hj => ?_
    obtain ⟨k, hk, rfl | rfl⟩ := two_of hj
    · rw [(hS k hk).1, net_at _ k (by rw [hn]; exact hk)]; simp
    · rw [(hS k hk).2, net_at1 _ k (by rw [hn]; exact hk)]; simp

theorem row_users {f0 f1 : Field} {fuel : Nat} {cs : List Value} {x : DataW H × List MemPlace} (hs : Tryz.prog.underlying 56 = some (.struct #[f0, f1])) (o0 : f0.offset = 0) (o1 : f1.offset = 1) (t0 : f0.type = 9) (t1 : f1.type = 9)
    (h : DataW.trod enc Tryz.prog w base spare held fuel 33 cs = some x) (hz : (x.1.weights Tryz.prog 33).all (· ≤ reachBytes) = true) :
    ∃ (v : Value) (l : List (ByteArray × ByteArray)), cs = [v] ∧ RowAt w v l.length 2 (userCells l) ∧ (∀ s ∈ l, s.1.size ≤ maxLen ∧ s.2.size ≤ maxLen) ∧ 32 * l.length ≤ 140737488351232 := by
  rcases open_slice_pairs Tryz.underlying33 hs cells_user o0 o1 (by rw [t0]; exact cells_str) (by rw [t1]; exact cells_str) h with ⟨rfl, rfl⟩ | ⟨a, len, cap, m, n, V0, V1, D0, D1, P0, P1, rfl, _, hl, hm, hmm, rfl, hx⟩
  · exact ⟨_, [], rfl, ⟨rfl, .inl ⟨rfl, _, _, rfl⟩⟩, (fun _ h => by cases h), by decide⟩
  · have hlm : len ≤ m := by rw [hmm]; split <;> omega
    have hw := slice_weight Tryz.underlying33 hz
    simp only [List.length_map, List.length_range, bytes_user] at hw
    have each : ∀ i, i < len → ∃ s : ByteArray × ByteArray, w.cell? (a.add (i * 2)) = some (.string s.1) ∧ w.cell? (a.add (i * 2 + 1)) = some (.string s.2) ∧ s.1.size ≤ maxLen ∧ s.2.size ≤ maxLen := fun i hi => by
      obtain ⟨h1, h2, h3, h4⟩ := hx i (by omega)
      rw [t0] at h3
      rw [t1] at h4
      obtain ⟨s, e, _, z⟩ := DataW.trod_string Tryz.underlying9 h3
      obtain ⟨s', e', _, z'⟩ := DataW.trod_string Tryz.underlying9 h4
      simp only [List.cons.injEq, and_true] at e e'
      exact ⟨(s, s'), by rw [h1, e], by rw [h2, e'], z, z'⟩
    obtain ⟨S, hS⟩ := choose_lt each
    have hn : ((List.range len).map S).length = len := by simp
    refine ⟨_, (List.range len).map S, rfl, ?_, ?_, by rw [hn]; omega⟩
    · rw [hn]
      refine row_mk (by decide) (by rw [userCells_len, hn]) hl fun j hj => ?_
      obtain ⟨k, hk, rfl | rfl⟩ := two_of hj
      · rw [(hS k hk).1, user_at _ k (by rw [hn]; exact hk)]; simp
      · rw [(hS k hk).2.1, user_at1 _ k (by rw [hn]; exact hk)]; simp
    · intro s hs
      obtain ⟨i, hi, rfl⟩ := List.mem_map.1 hs
      exact (hS i (List.mem_range.1 hi)).2.2

theorem list9 {α : Type} {l : List α} (h : l.length = 9) : ∃ a b c d e f g i j, l = [a, b, c, d, e, f, g, i, j] := by
  match l, h with
  | [a, b, c, d, e, f, g, i, j], _ => exact ⟨a, b, c, d, e, f, g, i, j, rfl⟩

theorem each_weight {P : Program} {ts : List TypeId} {ds : List (DataW H)} (h : (DataW.weightsEach P ts ds).all (· ≤ reachBytes) = true) {j : Nat} {t : TypeId} {d : DataW H} (ht : ts[j]? = some t) (hd : ds[j]? = some d) : (d.weights P t).all (· ≤ reachBytes) = true :=
  List.all_eq_true.2 fun n hn => List.all_eq_true.1 h n (DataW.weights_mem_each ht hd n hn)

/-- a Config's nine cells, read -/
theorem open_cfg {fuel : Nat} {cs : List Value} {x : DataW H × List MemPlace} (h : DataW.trod enc Tryz.prog w base spare held fuel 36 cs = some x) (hz : (x.1.weights Tryz.prog 36).all (· ≤ reachBytes) = true) :
    ∃ (c : Cfg) (vD vN vU vW : Value), cs = [.string c.host, vD, vN, vU, .int .i64 c.most, .int .i64 c.size, vW, .int .i64 c.life, .int .i64 c.room] ∧ CfgAt w c vD vN vU vW ∧ CfgSz c ∧ CfgRm c := by
  obtain ⟨xs, n, _, rfl, hl, hx, hf⟩ := DataW.trod_struct Tryz.underlying36 h
  rw [cells_cfg] at hl
  obtain ⟨c0, c1, c2, c3, c4, c5, c6, c7, c8, rfl⟩ := list9 hl
  obtain ⟨y0, y1, y2, y3, y4, y5, y6, y7, y8, rfl⟩ := list9 hx
  have g0 : DataW.trod enc Tryz.prog w base spare held n 9 (([c0, c1, c2, c3, c4, c5, c6, c7, c8].drop 0).take (Tryz.prog.cellsOf 9)) = some y0 := hf 0 _ rfl
  have g1 : DataW.trod enc Tryz.prog w base spare held n 24 (([c0, c1, c2, c3, c4, c5, c6, c7, c8].drop 1).take (Tryz.prog.cellsOf 24)) = some y1 := hf 1 _ rfl
  have g2 : DataW.trod enc Tryz.prog w base spare held n 32 (([c0, c1, c2, c3, c4, c5, c6, c7, c8].drop 2).take (Tryz.prog.cellsOf 32)) = some y2 := hf 2 _ rfl
  have g3 : DataW.trod enc Tryz.prog w base spare held n 33 (([c0, c1, c2, c3, c4, c5, c6, c7, c8].drop 3).take (Tryz.prog.cellsOf 33)) = some y3 := hf 3 _ rfl
  have g4 : DataW.trod enc Tryz.prog w base spare held n 3 (([c0, c1, c2, c3, c4, c5, c6, c7, c8].drop 4).take (Tryz.prog.cellsOf 3)) = some y4 := hf 4 _ rfl
  have g5 : DataW.trod enc Tryz.prog w base spare held n 3 (([c0, c1, c2, c3, c4, c5, c6, c7, c8].drop 5).take (Tryz.prog.cellsOf 3)) = some y5 := hf 5 _ rfl
  have g6 : DataW.trod enc Tryz.prog w base spare held n 34 (([c0, c1, c2, c3, c4, c5, c6, c7, c8].drop 6).take (Tryz.prog.cellsOf 34)) = some y6 := hf 6 _ rfl
  have g7 : DataW.trod enc Tryz.prog w base spare held n 3 (([c0, c1, c2, c3, c4, c5, c6, c7, c8].drop 7).take (Tryz.prog.cellsOf 3)) = some y7 := hf 7 _ rfl
  have g8 : DataW.trod enc Tryz.prog w base spare held n 3 (([c0, c1, c2, c3, c4, c5, c6, c7, c8].drop 8).take (Tryz.prog.cellsOf 3)) = some y8 := hf 8 _ rfl
  simp only [cells_str, cells_int, cells_strs, cells_nets, cells_users, cells_ints, List.drop_zero, List.drop_succ_cons, List.take_succ_cons, List.take_zero] at g0 g1 g2 g3 g4 g5 g6 g7 g8
  simp only [DataW.weights, Tryz.underlying36, List.map_cons, List.map_nil] at hz
  obtain ⟨s0, e0, _, z0⟩ := DataW.trod_string Tryz.underlying9 g0
  obtain ⟨v1, l1, e1, r1, z1, m1⟩ := row_strs g1 (each_weight hz (j := 1) rfl rfl)
  obtain ⟨v2, l2, e2, r2, m2⟩ := row_nets Tryz.underlying82 rfl rfl rfl rfl g2 (each_weight hz (j := 2) rfl rfl)
  obtain ⟨v3, l3, e3, r3, z3, m3⟩ := row_users Tryz.underlying56 rfl rfl rfl rfl g3 (each_weight hz (j := 3) rfl rfl)
  obtain ⟨n4, e4, _⟩ := DataW.trod_int Tryz.underlying3 g4
  obtain ⟨n5, e5, _⟩ := DataW.trod_int Tryz.underlying3 g5
  obtain ⟨v6, l6, e6, r6, m6⟩ := row_ints g6 (each_weight hz (j := 6) rfl rfl)
  obtain ⟨n7, e7, _⟩ := DataW.trod_int Tryz.underlying3 g7
  obtain ⟨n8, e8, _⟩ := DataW.trod_int Tryz.underlying3 g8
  simp only [List.cons.injEq, and_true] at e0 e1 e2 e3 e4 e5 e6 e7 e8
  subst e0 e1 e2 e3 e4 e5 e6 e7 e8
  exact ⟨⟨s0, l1, l2, l3, n4, n5, l6, n7, n8⟩, _, _, _, _, rfl, ⟨r1, r2, r3, r6⟩, ⟨z0, by show l1.length ≤ _; omega, z1, by show l2.length ≤ _; omega, by show l3.length ≤ _; omega, z3, by show l6.length ≤ _; omega⟩, ⟨m1, m2, m3, m6⟩⟩
end
end Go.Proofs.YtgjjjdccbpjnfaaGreatDoor
