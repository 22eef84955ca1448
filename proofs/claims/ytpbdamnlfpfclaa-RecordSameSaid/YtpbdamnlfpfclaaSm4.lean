/- RecordSame: change 4 of the clone. -/
import Derived.Test.YtpbdamnlfpfclaaSmE
namespace Go.Proofs.Ytpbdamnlfpfclaa
open Go.RowKit
attribute [local irreducible] wpQuiet
set_option linter.unusedSimpArgs false
set_option linter.unusedVariables false

/-- The slots, while a cell of the clone is changed. -/
structure Q40S (kk g p7 p9 k n c e : Nat) (o u : Int) (f0 f1 f4 f5 f6 f8 f10 f11 f12 f13 f14 f16 f17 f18 f19 f20 f21 f22 f24 f25 f26 f27 f28 f29 f30 f31 f32 f33 f34 f35 f36 f37 f38 f39 f40 f41 f42 f43 f44 f45 f46 f47 f48 f49 f50 f51 f52 f53 f54 f55 f56 f57 f58 f59 f60 f61 f62 f63 f64 f65 f66 f67 f68 f69 f70 f71 f72 f73 f74 f75 f76 f77 f78 f79 f80 f81 f82 f83 f84 f85 f86 f87 f88 f89 f90 f91 f92 f93 f94 f95 f96 f97 f98 f99 f100 f101 f102 f103 f104 f105 f106 f107 f108 f109 f110 f111 f112 f113 f114 f115 f116 f117 f118 f119 f120 f121 f122 f123 f124 f125 f126 f127 f128 f129 f130 f131 f132 f133 f134 f135 f136 f137 f138 f139 f140 f141 f142 f143 f144 f145 f146 f147 f148 f149 f150 f151 f152 f153 f154 f155 f156 f157 f158 f159 f160 f161 f162 f163 f164 f165 f166 f167 f168 f169 f170 f171 f172 f173 f174 f175 f176 f177 f178 f179 f180 f181 f182 f183 f184 f185 f186 f187 f188 f189 f190 f191 f192 f193 f194 f195 f196 f197 f198 f199 f200 f201 f202 f203 f204 f205 f206 f207 f208 f209 f210 f211 f212 f213 f214 f215 f216 f217 f218 f219 f220 f221 f222 f223 f224 f225 f226 f227 f228 f229 f230 f231 f232 f233 f234 f235 f236 f237 f238 f239 f240 f241 f242 f243 f244 f245 f246 f247 f248 f249 f250 f251 f252 f253 f254 f255 f256 f257 f258 f259 f260 f261 f262 f263 f264 f265 f266 f267 f268 f269 f270 f271 f272 f273 f274 f275 f276 f277 f278 f279 f280 f281 f282 f283 f284 f297 f298 f299 f300 f301 f302 f303 f304 f305 f306 f307 f308 : Value) (L : Nat → Bool) (v285 v286 v287 v288 v289 v290 v291 v292 v293 v294 v295 v296 v15 : Value) : Prop where
  e285 : L 0 = true → v285 = .pointer (some ⟨p9, 8, none⟩)
  e286 : L 1 = true → v286 = .slice (some ⟨e, 0, none⟩) n c
  e287 : L 2 = true → v287 = .int .i64 (k : Nat)
  e288 : L 3 = true → v288 = .pointer (some ⟨p9, 8, none⟩)
  e289 : L 4 = true → v289 = .slice (some ⟨e, 0, none⟩) n c
  e290 : L 5 = true → v290 = .int .i64 (k : Nat)
  e291 : L 6 = true → v291 = .pointer (some ⟨e, k * 8, none⟩)
  e292 : L 7 = true → v292 = .pointer (some ⟨e, k * 8 + 7, none⟩)
  e293 : L 8 = true → v293 = .int .u32 o
  e294 : L 9 = true → v294 = .int .u32 u
  e295 : L 10 = true → v295 = .pointer (some ⟨e, k * 8, none⟩)
  e296 : L 11 = true → v296 = .pointer (some ⟨e, k * 8 + 7, none⟩)
  e15 : L 13 = true → v15 = .bool true
abbrev Q40F (kk g p7 p9 k n c e : Nat) (o u : Int) (f0 f1 f4 f5 f6 f8 f10 f11 f12 f13 f14 f16 f17 f18 f19 f20 f21 f22 f24 f25 f26 f27 f28 f29 f30 f31 f32 f33 f34 f35 f36 f37 f38 f39 f40 f41 f42 f43 f44 f45 f46 f47 f48 f49 f50 f51 f52 f53 f54 f55 f56 f57 f58 f59 f60 f61 f62 f63 f64 f65 f66 f67 f68 f69 f70 f71 f72 f73 f74 f75 f76 f77 f78 f79 f80 f81 f82 f83 f84 f85 f86 f87 f88 f89 f90 f91 f92 f93 f94 f95 f96 f97 f98 f99 f100 f101 f102 f103 f104 f105 f106 f107 f108 f109 f110 f111 f112 f113 f114 f115 f116 f117 f118 f119 f120 f121 f122 f123 f124 f125 f126 f127 f128 f129 f130 f131 f132 f133 f134 f135 f136 f137 f138 f139 f140 f141 f142 f143 f144 f145 f146 f147 f148 f149 f150 f151 f152 f153 f154 f155 f156 f157 f158 f159 f160 f161 f162 f163 f164 f165 f166 f167 f168 f169 f170 f171 f172 f173 f174 f175 f176 f177 f178 f179 f180 f181 f182 f183 f184 f185 f186 f187 f188 f189 f190 f191 f192 f193 f194 f195 f196 f197 f198 f199 f200 f201 f202 f203 f204 f205 f206 f207 f208 f209 f210 f211 f212 f213 f214 f215 f216 f217 f218 f219 f220 f221 f222 f223 f224 f225 f226 f227 f228 f229 f230 f231 f232 f233 f234 f235 f236 f237 f238 f239 f240 f241 f242 f243 f244 f245 f246 f247 f248 f249 f250 f251 f252 f253 f254 f255 f256 f257 f258 f259 f260 f261 f262 f263 f264 f265 f266 f267 f268 f269 f270 f271 f272 f273 f274 f275 f276 f277 f278 f279 f280 f281 f282 f283 f284 f297 f298 f299 f300 f301 f302 f303 f304 f305 f306 f307 f308 : Value) (v285 v286 v287 v288 v289 v290 v291 v292 v293 v294 v295 v296 v15 : Value) : Act := { tmps := #[f0, f1, .int .u8 (kk : Nat), .pointer (some ⟨g, 0, none⟩), f4, f5, f6, .pointer (some ⟨p7, 0, none⟩), f8, .pointer (some ⟨p9, 0, none⟩), f10, f11, f12, f13, f14, v15, f16, f17, f18, f19, f20, f21, f22, .int .i64 (k : Nat), f24, f25, f26, f27, f28, f29, f30, f31, f32, f33, f34, f35, f36, f37, f38, f39, f40, f41, f42, f43, f44, f45, f46, f47, f48, f49, f50, f51, f52, f53, f54, f55, f56, f57, f58, f59, f60, f61, f62, f63, f64, f65, f66, f67, f68, f69, f70, f71, f72, f73, f74, f75, f76, f77, f78, f79, f80, f81, f82, f83, f84, f85, f86, f87, f88, f89, f90, f91, f92, f93, f94, f95, f96, f97, f98, f99, f100, f101, f102, f103, f104, f105, f106, f107, f108, f109, f110, f111, f112, f113, f114, f115, f116, f117, f118, f119, f120, f121, f122, f123, f124, f125, f126, f127, f128, f129, f130, f131, f132, f133, f134, f135, f136, f137, f138, f139, f140, f141, f142, f143, f144, f145, f146, f147, f148, f149, f150, f151, f152, f153, f154, f155, f156, f157, f158, f159, f160, f161, f162, f163, f164, f165, f166, f167, f168, f169, f170, f171, f172, f173, f174, f175, f176, f177, f178, f179, f180, f181, f182, f183, f184, f185, f186, f187, f188, f189, f190, f191, f192, f193, f194, f195, f196, f197, f198, f199, f200, f201, f202, f203, f204, f205, f206, f207, f208, f209, f210, f211, f212, f213, f214, f215, f216, f217, f218, f219, f220, f221, f222, f223, f224, f225, f226, f227, f228, f229, f230, f231, f232, f233, f234, f235, f236, f237, f238, f239, f240, f241, f242, f243, f244, f245, f246, f247, f248, f249, f250, f251, f252, f253, f254, f255, f256, f257, f258, f259, f260, f261, f262, f263, f264, f265, f266, f267, f268, f269, f270, f271, f272, f273, f274, f275, f276, f277, f278, f279, f280, f281, f282, f283, f284, v285, v286, v287, v288, v289, v290, v291, v292, v293, v294, v295, v296, f297, f298, f299, f300, f301, f302, f303, f304, f305, f306, f307, f308], defers := [] }
def Q40I (kk g p7 p9 k n c e : Nat) (o u : Int) (f0 f1 f4 f5 f6 f8 f10 f11 f12 f13 f14 f16 f17 f18 f19 f20 f21 f22 f24 f25 f26 f27 f28 f29 f30 f31 f32 f33 f34 f35 f36 f37 f38 f39 f40 f41 f42 f43 f44 f45 f46 f47 f48 f49 f50 f51 f52 f53 f54 f55 f56 f57 f58 f59 f60 f61 f62 f63 f64 f65 f66 f67 f68 f69 f70 f71 f72 f73 f74 f75 f76 f77 f78 f79 f80 f81 f82 f83 f84 f85 f86 f87 f88 f89 f90 f91 f92 f93 f94 f95 f96 f97 f98 f99 f100 f101 f102 f103 f104 f105 f106 f107 f108 f109 f110 f111 f112 f113 f114 f115 f116 f117 f118 f119 f120 f121 f122 f123 f124 f125 f126 f127 f128 f129 f130 f131 f132 f133 f134 f135 f136 f137 f138 f139 f140 f141 f142 f143 f144 f145 f146 f147 f148 f149 f150 f151 f152 f153 f154 f155 f156 f157 f158 f159 f160 f161 f162 f163 f164 f165 f166 f167 f168 f169 f170 f171 f172 f173 f174 f175 f176 f177 f178 f179 f180 f181 f182 f183 f184 f185 f186 f187 f188 f189 f190 f191 f192 f193 f194 f195 f196 f197 f198 f199 f200 f201 f202 f203 f204 f205 f206 f207 f208 f209 f210 f211 f212 f213 f214 f215 f216 f217 f218 f219 f220 f221 f222 f223 f224 f225 f226 f227 f228 f229 f230 f231 f232 f233 f234 f235 f236 f237 f238 f239 f240 f241 f242 f243 f244 f245 f246 f247 f248 f249 f250 f251 f252 f253 f254 f255 f256 f257 f258 f259 f260 f261 f262 f263 f264 f265 f266 f267 f268 f269 f270 f271 f272 f273 f274 f275 f276 f277 f278 f279 f280 f281 f282 f283 f284 f297 f298 f299 f300 f301 f302 f303 f304 f305 f306 f307 f308 : Value) (wd : World) (L : Nat → Bool) (ac : Act) (w : World) : Prop :=
  ∃ v285 v286 v287 v288 v289 v290 v291 v292 v293 v294 v295 v296 v15, ac = Q40F kk g p7 p9 k n c e o u f0 f1 f4 f5 f6 f8 f10 f11 f12 f13 f14 f16 f17 f18 f19 f20 f21 f22 f24 f25 f26 f27 f28 f29 f30 f31 f32 f33 f34 f35 f36 f37 f38 f39 f40 f41 f42 f43 f44 f45 f46 f47 f48 f49 f50 f51 f52 f53 f54 f55 f56 f57 f58 f59 f60 f61 f62 f63 f64 f65 f66 f67 f68 f69 f70 f71 f72 f73 f74 f75 f76 f77 f78 f79 f80 f81 f82 f83 f84 f85 f86 f87 f88 f89 f90 f91 f92 f93 f94 f95 f96 f97 f98 f99 f100 f101 f102 f103 f104 f105 f106 f107 f108 f109 f110 f111 f112 f113 f114 f115 f116 f117 f118 f119 f120 f121 f122 f123 f124 f125 f126 f127 f128 f129 f130 f131 f132 f133 f134 f135 f136 f137 f138 f139 f140 f141 f142 f143 f144 f145 f146 f147 f148 f149 f150 f151 f152 f153 f154 f155 f156 f157 f158 f159 f160 f161 f162 f163 f164 f165 f166 f167 f168 f169 f170 f171 f172 f173 f174 f175 f176 f177 f178 f179 f180 f181 f182 f183 f184 f185 f186 f187 f188 f189 f190 f191 f192 f193 f194 f195 f196 f197 f198 f199 f200 f201 f202 f203 f204 f205 f206 f207 f208 f209 f210 f211 f212 f213 f214 f215 f216 f217 f218 f219 f220 f221 f222 f223 f224 f225 f226 f227 f228 f229 f230 f231 f232 f233 f234 f235 f236 f237 f238 f239 f240 f241 f242 f243 f244 f245 f246 f247 f248 f249 f250 f251 f252 f253 f254 f255 f256 f257 f258 f259 f260 f261 f262 f263 f264 f265 f266 f267 f268 f269 f270 f271 f272 f273 f274 f275 f276 f277 f278 f279 f280 f281 f282 f283 f284 f297 f298 f299 f300 f301 f302 f303 f304 f305 f306 f307 f308 v285 v286 v287 v288 v289 v290 v291 v292 v293 v294 v295 v296 v15 ∧ Q40S kk g p7 p9 k n c e o u f0 f1 f4 f5 f6 f8 f10 f11 f12 f13 f14 f16 f17 f18 f19 f20 f21 f22 f24 f25 f26 f27 f28 f29 f30 f31 f32 f33 f34 f35 f36 f37 f38 f39 f40 f41 f42 f43 f44 f45 f46 f47 f48 f49 f50 f51 f52 f53 f54 f55 f56 f57 f58 f59 f60 f61 f62 f63 f64 f65 f66 f67 f68 f69 f70 f71 f72 f73 f74 f75 f76 f77 f78 f79 f80 f81 f82 f83 f84 f85 f86 f87 f88 f89 f90 f91 f92 f93 f94 f95 f96 f97 f98 f99 f100 f101 f102 f103 f104 f105 f106 f107 f108 f109 f110 f111 f112 f113 f114 f115 f116 f117 f118 f119 f120 f121 f122 f123 f124 f125 f126 f127 f128 f129 f130 f131 f132 f133 f134 f135 f136 f137 f138 f139 f140 f141 f142 f143 f144 f145 f146 f147 f148 f149 f150 f151 f152 f153 f154 f155 f156 f157 f158 f159 f160 f161 f162 f163 f164 f165 f166 f167 f168 f169 f170 f171 f172 f173 f174 f175 f176 f177 f178 f179 f180 f181 f182 f183 f184 f185 f186 f187 f188 f189 f190 f191 f192 f193 f194 f195 f196 f197 f198 f199 f200 f201 f202 f203 f204 f205 f206 f207 f208 f209 f210 f211 f212 f213 f214 f215 f216 f217 f218 f219 f220 f221 f222 f223 f224 f225 f226 f227 f228 f229 f230 f231 f232 f233 f234 f235 f236 f237 f238 f239 f240 f241 f242 f243 f244 f245 f246 f247 f248 f249 f250 f251 f252 f253 f254 f255 f256 f257 f258 f259 f260 f261 f262 f263 f264 f265 f266 f267 f268 f269 f270 f271 f272 f273 f274 f275 f276 f277 f278 f279 f280 f281 f282 f283 f284 f297 f298 f299 f300 f301 f302 f303 f304 f305 f306 f307 f308 L v285 v286 v287 v288 v289 v290 v291 v292 v293 v294 v295 v296 v15 ∧ ((L 12 = false → w = wd) ∧ (L 12 = true → w = wd.setCell ⟨e, k * 8 + 7, none⟩ (.int .u32 u)) ∧ (L 12 = true → L 0 = true ∧ L 1 = true ∧ L 2 = true ∧ L 3 = true ∧ L 4 = true ∧ L 5 = true ∧ L 6 = true ∧ L 7 = true ∧ L 8 = true ∧ L 9 = true ∧ L 10 = true ∧ L 11 = true) ∧ (L 11 = true → L 10 = true))
set_option maxRecDepth 100000 in
set_option maxHeartbeats 16000000 in
theorem sm4 (w0 : World) (x A7 A9 : Array Value) (g p7 p9 kk : Nat) (t : St) (v1 v2 v3 v4 : Value) (z1 : Option Addr) (n1 c1 : Nat) (z2 : Option Addr) (n2 c2 : Nat) (z3 : Option Addr) (n3 c3 : Nat) (z4 : Option Addr) (n4 c4 : Nat) (HH : Hid (SmH w0 x A7 g p7 p9 kk t v1 v2 v3 v4 z1 n1 c1 z2 n2 c2 z3 n3 c3 z4 n4 c4)) (tC : St) (ch : Bool) (HSC : sameB t tC = !ch) (D1 : ch = true → kk % 4 < 3) (D2 : ch = false → tC = t) (f0 f1 f4 f5 f6 f8 f10 f11 f12 f13 f14 f16 f17 f18 f19 f20 f21 f22 f23 f24 f25 f26 f27 f28 f29 f30 f31 f32 f33 f34 f35 f36 f37 f38 f39 f40 f41 f42 f43 f44 f45 f46 f47 f48 f49 f50 f51 f52 f53 f54 f55 f56 f57 f58 f59 f60 f61 f62 f63 f64 f65 f66 f67 f68 f69 f70 f71 f72 f73 f74 f75 f76 f77 f78 f79 f80 f81 f82 f83 f84 f85 f86 f87 f88 f89 f90 f91 f92 f93 f94 f95 f96 f97 f98 f99 f100 f101 f102 f103 f104 f105 f106 f107 f108 f109 f110 f111 f112 f113 f114 f115 f116 f117 f118 f119 f120 f121 f122 f123 f124 f125 f126 f127 f128 f129 f130 f131 f132 f133 f134 f135 f136 f137 f138 f139 f140 f141 f142 f143 f144 f145 f146 f147 f148 f149 f150 f151 f152 f153 f154 f155 f156 f157 f158 f159 f160 f161 f162 f163 f164 f165 f166 f167 f168 f169 f170 f171 f172 f173 f174 f175 f176 f177 f178 f179 f180 f181 f182 f183 f184 f185 f186 f187 f188 f189 f190 f191 f192 f193 f194 f195 f196 f197 f198 f199 f200 f201 f202 f203 f204 f205 f206 f207 f208 f209 f210 f211 f212 f213 f214 f215 f216 f217 f218 f219 f220 f221 f222 f223 f224 f225 f226 f227 f228 f229 f230 f231 f232 f233 f234 f235 f236 f237 f238 f239 f240 f241 f242 f243 f244 f245 f246 f247 f248 f249 f250 f251 f252 f253 f254 f255 f256 f257 f258 f259 f260 f261 f262 f263 f264 f265 f266 f267 f268 f269 f270 f271 f272 f273 f274 f275 f276 f277 f278 f279 f280 f281 f282 f283 f284 f285 f286 f287 f288 f289 f290 f291 f292 f293 f294 f295 f296 f297 f298 f299 f300 f301 f302 f303 f304 f305 f306 f307 f308 : Value) (wj : World) (KC : S41 w0 x A7 A9 g p7 p9 t v1 v2 v3 v4 z1 n1 c1 z2 n2 c2 z3 n3 c3 z4 n4 c4 tC wj) :
    Code.wp Try.prog (tail4 37) (bodyPost Try.prog Try.f4 fun e w' => e = .returned (.bool true) ∧ Below w0.heap.size w0 w') { tmps := #[f0, f1, .int .u8 (kk : Nat), .pointer (some ⟨g, 0, none⟩), f4, f5, f6, .pointer (some ⟨p7, 0, none⟩), f8, .pointer (some ⟨p9, 0, none⟩), f10, f11, f12, f13, f14, .bool ch, f16, f17, f18, f19, f20, f21, f22, f23, f24, f25, f26, f27, f28, f29, f30, f31, f32, f33, f34, f35, f36, f37, f38, f39, f40, f41, f42, f43, f44, f45, f46, f47, f48, f49, f50, f51, f52, f53, f54, f55, f56, f57, f58, f59, f60, f61, f62, f63, f64, f65, f66, f67, f68, f69, f70, f71, f72, f73, f74, f75, f76, f77, f78, f79, f80, f81, f82, f83, f84, f85, f86, f87, f88, f89, f90, f91, f92, f93, f94, f95, f96, f97, f98, f99, f100, f101, f102, f103, f104, f105, f106, f107, f108, f109, f110, f111, f112, f113, f114, f115, f116, f117, f118, f119, f120, f121, f122, f123, f124, f125, f126, f127, f128, f129, f130, f131, f132, f133, f134, f135, f136, f137, f138, f139, f140, f141, f142, f143, f144, f145, f146, f147, f148, f149, f150, f151, f152, f153, f154, f155, f156, f157, f158, f159, f160, f161, f162, f163, f164, f165, f166, f167, f168, f169, f170, f171, f172, f173, f174, f175, f176, f177, f178, f179, f180, f181, f182, f183, f184, f185, f186, f187, f188, f189, f190, f191, f192, f193, f194, f195, f196, f197, f198, f199, f200, f201, f202, f203, f204, f205, f206, f207, f208, f209, f210, f211, f212, f213, f214, f215, f216, f217, f218, f219, f220, f221, f222, f223, f224, f225, f226, f227, f228, f229, f230, f231, f232, f233, f234, f235, f236, f237, f238, f239, f240, f241, f242, f243, f244, f245, f246, f247, f248, f249, f250, f251, f252, f253, f254, f255, f256, f257, f258, f259, f260, f261, f262, f263, f264, f265, f266, f267, f268, f269, f270, f271, f272, f273, f274, f275, f276, f277, f278, f279, f280, f281, f282, f283, f284, f285, f286, f287, f288, f289, f290, f291, f292, f293, f294, f295, f296, f297, f298, f299, f300, f301, f302, f303, f304, f305, f306, f307, f308], defers := [] } wj := by
  have K0 := Lib.hid KC
  have HS := Lib.hid HSC
  have E1 := Lib.hid D1
  have E2 := Lib.hid D2
  clear KC HSC D1 D2
  conv => arg 2; whnf
  conv => arg 4; zeta
  have cq := K0.out.cells.2.2.1
  go_upto_region 38 with fail
  rename_i K2 hK2 K1 hK1
  have HK2 := Lib.hid hK2
  clear hK2
  obtain ⟨r4, hr4⟩ : ∃ r4, r4 = kk % 4 := ⟨_, rfl⟩
  have R4 := Lib.hid hr4
  have EM : (kk : Int).tmod 4 = (r4 : Int) := by rw [hr4]; exact tmod_nat4 kk
  clear hr4
  by_cases hg : 0 < n3 ∧ r4 = 3
  · obtain ⟨hn, rfl⟩ := hg
    obtain ⟨q4, hq4⟩ : ∃ q4, q4 = kk / 4 := ⟨_, rfl⟩
    have Q4 := Lib.hid (show q4 < 64 by have := HH.out.small; omega)
    have EQ : (kk : Int).tdiv 4 = (q4 : Int) := by rw [hq4]; exact tdiv_nat4 kk
    have EW : IntKind.i64.wrap (q4 : Int) = (q4 : Int) := wrap_smalli (by have := Q4.out; omega)
    obtain ⟨k, hk⟩ : ∃ k, k = q4 % n3 := ⟨_, rfl⟩
    have ER : (q4 : Int) % 256 % (n3 : Int) = (k : Int) := by
      have h6 : (q4 : Int) % 256 = (q4 : Int) := by have := Q4.out; omega
      rw [h6, hk]
      exact (Int.natCast_emod q4 n3).symm
    have hkn : k < n3 := by rw [hk]; exact Nat.mod_lt _ hn
    clear hk hq4
    have hn1 : (0 : Int) < (n3 : Int) := by omega
    have hn2 : ¬ (n3 : Int) = 0 := by omega
    have hch : ch = false := by
      cases ch with
      | false => rfl
      | true => have h1 := E1.out rfl; have h2 := R4.out; omega
    subst hch
    have ht := E2.out rfl
    subst ht
    obtain ⟨y, hy⟩ : ∃ y, tC.st[k]? = some y := ⟨_, List.getElem?_eq_getElem (by rw [← HH.out.l3]; exact hkn)⟩
    have o9 := K0.out.o9.o3
    have CC := Lib.hid (own_cap o9)
    rw [HH.out.l3] at o9
    obtain ⟨e, r1, -, -, RR⟩ := Own.elem sr_len o9 hy
    subst r1
    have hkc : k ≤ c3 := by have := CC.out.1; omega
    have hnc : n3 ≤ c3 := CC.out.1
    obtain ⟨o, ho⟩ : ∃ o, o = y.p7 := ⟨_, rfl⟩
    obtain ⟨u, hu⟩ : ∃ u, bits BinOp.xor IntKind.u32 o 1 = u := ⟨_, rfl⟩
    have CE := Lib.hid (show wj.drew.cell? ⟨e, k * 8 + 7, none⟩ = some (.int .u32 o) by rw [ho]; exact RR wj.drew (Below.refl _ _).drew 7 _ rfl)
    have CF := Lib.hid (show wj.drew.frozen? ⟨e, k * 8 + 7, none⟩ = false from Own.free o9 _)
    have CQ := Lib.hid (show wj.drew.cell? ⟨p9, 8, none⟩ = some (.slice (some ⟨e, 0, none⟩) n3 c3) from cq)
    have UE := Lib.hid hu
    have HY := Lib.hid hy
    have UX := Lib.hid (show u = (bits BinOp.xor IntKind.u32 y.p7 1) by rw [← hu, ho])
    have AW := Lib.hid (HH.out.away e (.inr (.inr (.inl rfl))))
    have NX := Lib.hid (show S41 w0 x A7 A9 g p7 p9 tC v1 v2 v3 v4 z1 n1 c1 z2 n2 c2 (some ⟨e, 0, none⟩) n3 c3 z4 n4 c4 (⟨tC.cf, tC.po, tC.vl, tC.st.set k ({ y with p7 := (bits BinOp.xor IntKind.u32 y.p7 1) }), tC.fd, tC.c, tC.beat⟩) (wj.drew.setCell ⟨e, k * 8 + 7, none⟩ (.int .u32 u)) by
      rw [UX.out]
      have kp := S41.keep (o := k * 8 + 7) (u := .int .u32 (bits BinOp.xor IntKind.u32 y.p7 1)) (K0.out.next (Below.refl _ _).drew) AW.out
      exact ⟨kp.1, kp.2.1, kp.2.2.1, kp.2.2.2.1, kp.2.2.2.2, K0.out.q9, ⟨K0.out.o9.o1.setCell (a := ⟨e, k * 8 + 7, none⟩) (fun h => HH.out.ap.n13 e h rfl) _, K0.out.o9.o2.setCell (a := ⟨e, k * 8 + 7, none⟩) (fun h => HH.out.ap.n23 e h rfl) _, Own.setOne (j := 7) sr_len K0.out.o9.o3 (own_len K0.out.o9.o3) k y { y with p7 := (bits BinOp.xor IntKind.u32 y.p7 1) } _ HY.out (by decide) rfl, K0.out.o9.o4.setCell (a := ⟨e, k * 8 + 7, none⟩) (HH.out.ap.n34 e rfl) _, ⟨K0.out.o9.few.1, K0.out.o9.few.2.1, by show (List.set _ _ _).length ≤ 100; rw [List.length_set]; exact K0.out.o9.few.2.2.1, K0.out.o9.few.2.2.2⟩⟩⟩)
    have NS := Lib.hid (show sameB tC (⟨tC.cf, tC.po, tC.vl, tC.st.set k ({ y with p7 := (bits BinOp.xor IntKind.u32 y.p7 1) }), tC.fd, tC.c, tC.beat⟩) = !true by
      have h := set_ne HY.out (show y ≠ { y with p7 := (bits BinOp.xor IntKind.u32 y.p7 1) } from fun h => xor_ne32 (congrArg Sr.p7 h).symm)
      simp [sameB, h])
    clear o9 hy ho hu RR
    go_upto_region 40 with fail
    rw [ER]
    clear ER
    refine wp_region_inv (I := Q40I kk g p7 p9 k n3 c3 e o u _ _ _ _ _ _ _ _ _ _ _ _ _ _ _ _ _ _ _ _ _ _ _ _ _ _ _ _ _ _ _ _ _ _ _ _ _ _ _ _ _ _ _ _ _ _ _ _ _ _ _ _ _ _ _ _ _ _ _ _ _ _ _ _ _ _ _ _ _ _ _ _ _ _ _ _ _ _ _ _ _ _ _ _ _ _ _ _ _ _ _ _ _ _ _ _ _ _ _ _ _ _ _ _ _ _ _ _ _ _ _ _ _ _ _ _ _ _ _ _ _ _ _ _ _ _ _ _ _ _ _ _ _ _ _ _ _ _ _ _ _ _ _ _ _ _ _ _ _ _ _ _ _ _ _ _ _ _ _ _ _ _ _ _ _ _ _ _ _ _ _ _ _ _ _ _ _ _ _ _ _ _ _ _ _ _ _ _ _ _ _ _ _ _ _ _ _ _ _ _ _ _ _ _ _ _ _ _ _ _ _ _ _ _ _ _ _ _ _ _ _ _ _ _ _ _ _ _ _ _ _ _ _ _ _ _ _ _ _ _ _ _ _ _ _ _ _ _ _ _ _ _ _ _ _ _ _ _ _ _ _ _ _ _ _ _ _ _ _ _ _ _ _ _ _ _ _ _ _ _ _ _ _ _ _ _ _ _ _ _ _ wj.drew) (by kernel_rfl) (by kernel_rfl) ⟨_, _, _, _, _, _, _, _, _, _, _, _, _, rfl, ⟨(fun h => Bool.noConfusion h), (fun h => Bool.noConfusion h), (fun h => Bool.noConfusion h), (fun h => Bool.noConfusion h), (fun h => Bool.noConfusion h), (fun h => Bool.noConfusion h), (fun h => Bool.noConfusion h), (fun h => Bool.noConfusion h), (fun h => Bool.noConfusion h), (fun h => Bool.noConfusion h), (fun h => Bool.noConfusion h), (fun h => Bool.noConfusion h), (fun h => Bool.noConfusion h)⟩, fun _ => rfl, (fun h => Bool.noConfusion h), (fun h => Bool.noConfusion h), (fun h => Bool.noConfusion h)⟩ ?_ ?_
    · intro o' ho' Lx ac w' hI hL haft
      obtain ⟨v285, v286, v287, v288, v289, v290, v291, v292, v293, v294, v295, v296, v15, rfl, hs, hw⟩ := hI
      match o', ho' with
        | 0, _ =>
          have h12 : Lx 12 = false := by cases cc : Lx 12 with | false => rfl | true => have hq := (hw.2.2.1 cc).1; rw [hL] at hq; cases hq
          obtain rfl := hw.1 h12
          exact i_val rfl (.pointer (some ⟨p9, 8, none⟩)) _ (by rfl) (by go_simp) ⟨(.pointer (some ⟨p9, 8, none⟩)), v286, v287, v288, v289, v290, v291, v292, v293, v294, v295, v296, v15, rfl, { hs with e285 := fun _ => rfl }, fun _ => rfl, (fun h => by rw [show upd Lx 0 12 = Lx 12 from rfl, h12] at h; cases h), (fun h => by rw [show upd Lx 0 12 = Lx 12 from rfl, h12] at h; cases h), hw.2.2.2⟩
        | 1, _ =>
          have h12 : Lx 12 = false := by cases cc : Lx 12 with | false => rfl | true => have hq := (hw.2.2.1 cc).2.1; rw [hL] at hq; cases hq
          obtain rfl := hw.1 h12
          have e285x := hs.e285 (haft 0 (by decide))
          subst e285x
          have q := CQ.out
          exact i_val rfl (.slice (some ⟨e, 0, none⟩) n3 c3) _ (by rfl) (by go_simp) ⟨(.pointer (some ⟨p9, 8, none⟩)), (.slice (some ⟨e, 0, none⟩) n3 c3), v287, v288, v289, v290, v291, v292, v293, v294, v295, v296, v15, rfl, { hs with e286 := fun _ => rfl }, fun _ => rfl, (fun h => by rw [show upd Lx 1 12 = Lx 12 from rfl, h12] at h; cases h), (fun h => by rw [show upd Lx 1 12 = Lx 12 from rfl, h12] at h; cases h), hw.2.2.2⟩
        | 2, _ =>
          have h12 : Lx 12 = false := by cases cc : Lx 12 with | false => rfl | true => have hq := (hw.2.2.1 cc).2.2.1; rw [hL] at hq; cases hq
          obtain rfl := hw.1 h12
          exact i_val rfl (.int .i64 (k : Nat)) _ (by rfl) (by go_simp) ⟨v285, v286, (.int .i64 (k : Nat)), v288, v289, v290, v291, v292, v293, v294, v295, v296, v15, rfl, { hs with e287 := fun _ => rfl }, fun _ => rfl, (fun h => by rw [show upd Lx 2 12 = Lx 12 from rfl, h12] at h; cases h), (fun h => by rw [show upd Lx 2 12 = Lx 12 from rfl, h12] at h; cases h), hw.2.2.2⟩
        | 3, _ =>
          have h12 : Lx 12 = false := by cases cc : Lx 12 with | false => rfl | true => have hq := (hw.2.2.1 cc).2.2.2.1; rw [hL] at hq; cases hq
          obtain rfl := hw.1 h12
          exact i_val rfl (.pointer (some ⟨p9, 8, none⟩)) _ (by rfl) (by go_simp) ⟨v285, v286, v287, (.pointer (some ⟨p9, 8, none⟩)), v289, v290, v291, v292, v293, v294, v295, v296, v15, rfl, { hs with e288 := fun _ => rfl }, fun _ => rfl, (fun h => by rw [show upd Lx 3 12 = Lx 12 from rfl, h12] at h; cases h), (fun h => by rw [show upd Lx 3 12 = Lx 12 from rfl, h12] at h; cases h), hw.2.2.2⟩
        | 4, _ =>
          have h12 : Lx 12 = false := by cases cc : Lx 12 with | false => rfl | true => have hq := (hw.2.2.1 cc).2.2.2.2.1; rw [hL] at hq; cases hq
          obtain rfl := hw.1 h12
          have e288x := hs.e288 (haft 3 (by decide))
          subst e288x
          have q := CQ.out
          exact i_val rfl (.slice (some ⟨e, 0, none⟩) n3 c3) _ (by rfl) (by go_simp) ⟨v285, v286, v287, (.pointer (some ⟨p9, 8, none⟩)), (.slice (some ⟨e, 0, none⟩) n3 c3), v290, v291, v292, v293, v294, v295, v296, v15, rfl, { hs with e289 := fun _ => rfl }, fun _ => rfl, (fun h => by rw [show upd Lx 4 12 = Lx 12 from rfl, h12] at h; cases h), (fun h => by rw [show upd Lx 4 12 = Lx 12 from rfl, h12] at h; cases h), hw.2.2.2⟩
        | 5, _ =>
          have h12 : Lx 12 = false := by cases cc : Lx 12 with | false => rfl | true => have hq := (hw.2.2.1 cc).2.2.2.2.2.1; rw [hL] at hq; cases hq
          obtain rfl := hw.1 h12
          exact i_val rfl (.int .i64 (k : Nat)) _ (by rfl) (by go_simp) ⟨v285, v286, v287, v288, v289, (.int .i64 (k : Nat)), v291, v292, v293, v294, v295, v296, v15, rfl, { hs with e290 := fun _ => rfl }, fun _ => rfl, (fun h => by rw [show upd Lx 5 12 = Lx 12 from rfl, h12] at h; cases h), (fun h => by rw [show upd Lx 5 12 = Lx 12 from rfl, h12] at h; cases h), hw.2.2.2⟩
        | 6, _ =>
          have h12 : Lx 12 = false := by cases cc : Lx 12 with | false => rfl | true => have hq := (hw.2.2.1 cc).2.2.2.2.2.2.1; rw [hL] at hq; cases hq
          obtain rfl := hw.1 h12
          have e289x := hs.e289 (haft 4 (by decide))
          subst e289x
          have e290x := hs.e290 (haft 5 (by decide))
          subst e290x
          exact i_val rfl (.pointer (some ⟨e, k * 8, none⟩)) _ (by rfl) (by go_simp) ⟨v285, v286, v287, v288, (.slice (some ⟨e, 0, none⟩) n3 c3), (.int .i64 (k : Nat)), (.pointer (some ⟨e, k * 8, none⟩)), v292, v293, v294, v295, v296, v15, rfl, { hs with e291 := fun _ => rfl }, fun _ => rfl, (fun h => by rw [show upd Lx 6 12 = Lx 12 from rfl, h12] at h; cases h), (fun h => by rw [show upd Lx 6 12 = Lx 12 from rfl, h12] at h; cases h), hw.2.2.2⟩
        | 7, _ =>
          have h12 : Lx 12 = false := by cases cc : Lx 12 with | false => rfl | true => have hq := (hw.2.2.1 cc).2.2.2.2.2.2.2.1; rw [hL] at hq; cases hq
          obtain rfl := hw.1 h12
          have e291x := hs.e291 (haft 6 (by decide))
          subst e291x
          exact i_val rfl (.pointer (some ⟨e, k * 8 + 7, none⟩)) _ (by rfl) (by go_simp) ⟨v285, v286, v287, v288, v289, v290, (.pointer (some ⟨e, k * 8, none⟩)), (.pointer (some ⟨e, k * 8 + 7, none⟩)), v293, v294, v295, v296, v15, rfl, { hs with e292 := fun _ => rfl }, fun _ => rfl, (fun h => by rw [show upd Lx 7 12 = Lx 12 from rfl, h12] at h; cases h), (fun h => by rw [show upd Lx 7 12 = Lx 12 from rfl, h12] at h; cases h), hw.2.2.2⟩
        | 8, _ =>
          have h12 : Lx 12 = false := by cases cc : Lx 12 with | false => rfl | true => have hq := (hw.2.2.1 cc).2.2.2.2.2.2.2.2.1; rw [hL] at hq; cases hq
          obtain rfl := hw.1 h12
          have e292x := hs.e292 (haft 7 (by decide))
          subst e292x
          have q := CE.out
          exact i_val rfl (.int .u32 o) _ (by rfl) (by go_simp) ⟨v285, v286, v287, v288, v289, v290, v291, (.pointer (some ⟨e, k * 8 + 7, none⟩)), (.int .u32 o), v294, v295, v296, v15, rfl, { hs with e293 := fun _ => rfl }, fun _ => rfl, (fun h => by rw [show upd Lx 8 12 = Lx 12 from rfl, h12] at h; cases h), (fun h => by rw [show upd Lx 8 12 = Lx 12 from rfl, h12] at h; cases h), hw.2.2.2⟩
        | 9, _ =>
          have h12 : Lx 12 = false := by cases cc : Lx 12 with | false => rfl | true => have hq := (hw.2.2.1 cc).2.2.2.2.2.2.2.2.2.1; rw [hL] at hq; cases hq
          obtain rfl := hw.1 h12
          have e293x := hs.e293 (haft 8 (by decide))
          subst e293x
          have q := UE.out
          exact i_val rfl (.int .u32 u) _ (by rfl) (by go_simp) ⟨v285, v286, v287, v288, v289, v290, v291, v292, (.int .u32 o), (.int .u32 u), v295, v296, v15, rfl, { hs with e294 := fun _ => rfl }, fun _ => rfl, (fun h => by rw [show upd Lx 9 12 = Lx 12 from rfl, h12] at h; cases h), (fun h => by rw [show upd Lx 9 12 = Lx 12 from rfl, h12] at h; cases h), hw.2.2.2⟩
        | 10, _ =>
          have h12 : Lx 12 = false := by cases cc : Lx 12 with | false => rfl | true => have hq := (hw.2.2.1 cc).2.2.2.2.2.2.2.2.2.2.1; rw [hL] at hq; cases hq
          obtain rfl := hw.1 h12
          have e286x := hs.e286 (haft 1 (by decide))
          subst e286x
          have e287x := hs.e287 (haft 2 (by decide))
          subst e287x
          exact i_val rfl (.pointer (some ⟨e, k * 8, none⟩)) _ (by rfl) (by go_simp) ⟨v285, (.slice (some ⟨e, 0, none⟩) n3 c3), (.int .i64 (k : Nat)), v288, v289, v290, v291, v292, v293, v294, (.pointer (some ⟨e, k * 8, none⟩)), v296, v15, rfl, { hs with e295 := fun _ => rfl }, fun _ => rfl, (fun h => by rw [show upd Lx 10 12 = Lx 12 from rfl, h12] at h; cases h), (fun h => by rw [show upd Lx 10 12 = Lx 12 from rfl, h12] at h; cases h), fun _ => rfl⟩
        | 11, _ =>
          have h12 : Lx 12 = false := by cases cc : Lx 12 with | false => rfl | true => have hq := (hw.2.2.1 cc).2.2.2.2.2.2.2.2.2.2.2; rw [hL] at hq; cases hq
          obtain rfl := hw.1 h12
          have e295x := hs.e295 (haft 10 (by decide))
          subst e295x
          exact i_val rfl (.pointer (some ⟨e, k * 8 + 7, none⟩)) _ (by rfl) (by go_simp) ⟨v285, v286, v287, v288, v289, v290, v291, v292, v293, v294, (.pointer (some ⟨e, k * 8, none⟩)), (.pointer (some ⟨e, k * 8 + 7, none⟩)), v15, rfl, { hs with e296 := fun _ => rfl }, fun _ => rfl, (fun h => by rw [show upd Lx 11 12 = Lx 12 from rfl, h12] at h; cases h), (fun h => by rw [show upd Lx 11 12 = Lx 12 from rfl, h12] at h; cases h), fun _ => haft 10 (by decide)⟩
        | 12, _ =>
          obtain rfl := hw.1 hL
          have e296x := hs.e296 (haft 11 (by decide))
          have e294x := hs.e294 (haft 9 (by decide))
          subst e296x
          subst e294x
          have q := CE.out
          have q2 := CF.out
          exact i_skip rfl (wj.drew.setCell ⟨e, k * 8 + 7, none⟩ (.int .u32 u)) (by rfl) (by go_simp) ⟨v285, v286, v287, v288, v289, v290, v291, v292, v293, _, v295, _, v15, rfl, { hs with }, (fun h => Bool.noConfusion h), fun _ => rfl, fun _ => ⟨haft 0 (by decide), haft 1 (by decide), haft 2 (by decide), haft 3 (by decide), haft 4 (by decide), haft 5 (by decide), haft 6 (by decide), haft 7 (by decide), haft 8 (by decide), haft 9 (by decide), hw.2.2.2 (haft 11 (by decide)), haft 11 (by decide)⟩, hw.2.2.2⟩
        | 13, _ => exact i_val rfl (.bool true) _ (by rfl) (by go_simp) ⟨v285, v286, v287, v288, v289, v290, v291, v292, v293, v294, v295, v296, (.bool true), rfl, { hs with e15 := fun _ => rfl }, hw⟩
        | k + 14, h =>
          exfalso
          have h2 : k + 14 < 14 := h
          omega
    intro Lx ac w9 hI hall
    obtain ⟨v285, v286, v287, v288, v289, v290, v291, v292, v293, v294, v295, v296, v15, rfl, hs, hw⟩ := hI
    have e15y := hs.e15 (hall 13 (by decide))
    subst e15y
    have hw9 := hw.2.1 (hall 12 (by decide))
    subst hw9
    clear hs hall hw
    go_wp2_with fail
    exact HK2.out _ _ (s41 w0 x A7 A9 g p7 p9 kk tC v1 v2 v3 v4 z1 n1 c1 z2 n2 c2 (some ⟨e, 0, none⟩) n3 c3 z4 n4 c4 HH _ true NS.out  _ _ _ _ _ _ _ _ _ _ _ _ _ _ _ _ _ _ _ _ _ _ _ _ _ _ _ _ _ _ _ _ _ _ _ _ _ _ _ _ _ _ _ _ _ _ _ _ _ _ _ _ _ _ _ _ _ _ _ _ _ _ _ _ _ _ _ _ _ _ _ _ _ _ _ _ _ _ _ _ _ _ _ _ _ _ _ _ _ _ _ _ _ _ _ _ _ _ _ _ _ _ _ _ _ _ _ _ _ _ _ _ _ _ _ _ _ _ _ _ _ _ _ _ _ _ _ _ _ _ _ _ _ _ _ _ _ _ _ _ _ _ _ _ _ _ _ _ _ _ _ _ _ _ _ _ _ _ _ _ _ _ _ _ _ _ _ _ _ _ _ _ _ _ _ _ _ _ _ _ _ _ _ _ _ _ _ _ _ _ _ _ _ _ _ _ _ _ _ _ _ _ _ _ _ _ _ _ _ _ _ _ _ _ _ _ _ _ _ _ _ _ _ _ _ _ _ _ _ _ _ _ _ _ _ _ _ _ _ _ _ _ _ _ _ _ _ _ _ _ _ _ _ _ _ _ _ _ _ _ _ _ _ _ _ _ _ _ _ _ _ _ _ _ _ _ _ _ _ _ _ _ _ _ _ _ _ _ _ _ _ _ _ _ _ _ _ _ _ _ _ _ _ _ _ NX.out)
  · have HE := Lib.hid (show ¬ (0 : Int) < (n3 : Int) ∨ ((0 : Int) < (n3 : Int) ∧ ¬ (r4 : Int) = 3) by omega)
    clear hg
    rcases HE.out with g1 | ⟨g1, g2⟩
    all_goals
      go_wp2_with fail
      exact HK2.out _ _ (s41 w0 x A7 A9 g p7 p9 kk t v1 v2 v3 v4 z1 n1 c1 z2 n2 c2 z3 n3 c3 z4 n4 c4 HH tC ch HS.out  _ _ _ _ _ _ _ _ _ _ _ _ _ _ _ _ _ _ _ _ _ _ _ _ _ _ _ _ _ _ _ _ _ _ _ _ _ _ _ _ _ _ _ _ _ _ _ _ _ _ _ _ _ _ _ _ _ _ _ _ _ _ _ _ _ _ _ _ _ _ _ _ _ _ _ _ _ _ _ _ _ _ _ _ _ _ _ _ _ _ _ _ _ _ _ _ _ _ _ _ _ _ _ _ _ _ _ _ _ _ _ _ _ _ _ _ _ _ _ _ _ _ _ _ _ _ _ _ _ _ _ _ _ _ _ _ _ _ _ _ _ _ _ _ _ _ _ _ _ _ _ _ _ _ _ _ _ _ _ _ _ _ _ _ _ _ _ _ _ _ _ _ _ _ _ _ _ _ _ _ _ _ _ _ _ _ _ _ _ _ _ _ _ _ _ _ _ _ _ _ _ _ _ _ _ _ _ _ _ _ _ _ _ _ _ _ _ _ _ _ _ _ _ _ _ _ _ _ _ _ _ _ _ _ _ _ _ _ _ _ _ _ _ _ _ _ _ _ _ _ _ _ _ _ _ _ _ _ _ _ _ _ _ _ _ _ _ _ _ _ _ _ _ _ _ _ _ _ _ _ _ _ _ _ _ _ _ _ _ _ _ _ _ _ _ _ _ _ _ _ _ _ _ _ wj K0.out)
end Go.Proofs.Ytpbdamnlfpfclaa
