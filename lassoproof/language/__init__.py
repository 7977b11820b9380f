"""Terms, conditions and formulas: their texts, their trees and their values."""
