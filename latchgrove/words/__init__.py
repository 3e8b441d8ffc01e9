"""Texts of trees and programs, and a desk that works are asked for at."""
